/- A string as bytes; the text of a key: what it is, and that it is just one key's. -/
import Derived.Test.YtmeclfgehpbjlaaMem
namespace Go.Proofs.Ytmeclfgehpbjlaa
open Go.RowKit

/-- The bytes of a string. -/
def tx (s : ByteArray) : List Nat := s.data.toList.map UInt8.toNat
theorem tx_len (s : ByteArray) : (tx s).length = s.size := by
  unfold tx
  rw [List.length_map, Array.length_toList]
  rfl
theorem tx_lt (s : ByteArray) : ∀ x ∈ tx s, x < 256 := by
  intro x hx
  simp only [tx, List.mem_map] at hx
  obtain ⟨y, -, rfl⟩ := hx
  exact y.toNat_lt
theorem map_inj : ∀ {a b : List UInt8}, a.map UInt8.toNat = b.map UInt8.toNat → a = b
  | [], [], _ => rfl
  | [], _ :: _, h => by simp at h
  | _ :: _, [], h => by simp at h
  | x :: a, y :: b, h => by
    simp only [List.map_cons, List.cons.injEq] at h
    rw [UInt8.toNat_inj.1 h.1, map_inj h.2]
theorem tx_inj {s r : ByteArray} (h : tx s = tx r) : s = r := by
  obtain ⟨⟨a⟩⟩ := s
  obtain ⟨⟨b⟩⟩ := r
  have := map_inj (show a.map UInt8.toNat = b.map UInt8.toNat from h)
  rw [this]
theorem tx_nil : tx ⟨#[]⟩ = [] := rfl
theorem tx_strOf {bs : List Nat} (h : ∀ x ∈ bs, x < 256) : tx (strOf bs) = bs := by
  have e : tx (strOf bs) = bs.map fun b => (UInt8.ofNat (((b : Nat) : Int).toNat)).toNat := by
    simp [tx, strOf, strOfNums, Function.comp_def]
  rw [e]
  conv => rhs; rw [← List.map_id bs]
  apply List.map_congr_left
  intro x hx
  have := h x hx
  simp
  omega
theorem tx_append (s r : ByteArray) : tx (s ++ r) = tx s ++ tx r := by
  obtain ⟨⟨a⟩⟩ := s
  obtain ⟨⟨b⟩⟩ := r
  rw [ByteArray.mk_append_mk]
  simp [tx]
theorem tx_extract (s : ByteArray) (i j : Nat) : tx (s.extract i j) = ((tx s).take j).drop i := by
  obtain ⟨⟨a⟩⟩ := s
  rw [ByteArray.extract_mk]
  simp [tx, List.drop_take, List.map_drop, List.map_take]
theorem toL (s : ByteArray) : s.toList = s.data.toList := by
  obtain ⟨⟨a⟩⟩ := s
  simp
theorem tx_eql (s r : ByteArray) : (s.toList == r.toList) = decide (tx s = tx r) := by
  rw [toL, toL]
  by_cases h : tx s = tx r
  · rw [decide_eq_true h, tx_inj h]
    simp
  · rw [decide_eq_false h, beq_eq_false_iff_ne]
    intro e
    exact h (by unfold tx; rw [e])
theorem tx_at (s : ByteArray) {i : Nat} (h : i < (tx s).length) : (tx s).getD i 0 < 256 := by
  have : (tx s).getD i 0 ∈ tx s := by
    rw [List.getD_eq_getElem?_getD, List.getElem?_eq_getElem h]
    exact List.getElem_mem h
  exact tx_lt s _ this
theorem idx_any (s : ByteArray) {i : Nat} (h : i < (tx s).length) (k : IntKind) (W : World) : (Instr.index 9 (.string s) (.int k (i : Int))).run Try.prog W = .ok (.int .u8 (((tx s).getD i 0 : Nat) : Int)) W := by
  rw [run_index_string (h := Try.underlying9)]
  rw [tx_len] at h
  rw [dif_pos ⟨by omega, by omega⟩]
  have e : (s[(i : Int).toNat]'(by omega)).toNat = (tx s).getD i 0 := by
    obtain ⟨⟨a⟩⟩ := s
    have h' : i < a.length := h
    have e1 : (tx ⟨⟨a⟩⟩) = a.map UInt8.toNat := rfl
    rw [e1, List.getD_eq_getElem?_getD, List.getElem?_map, List.getElem?_eq_getElem h']
    rfl
  rw [e]

/-- Does a byte stand as it is? -/
def pl (c : Nat) : Bool := (decide (97 ≤ c) && decide (c ≤ 122)) || (decide (48 ≤ c) && decide (c ≤ 57))
/-- A digit of base 16. -/
def hx (n : Nat) : Nat := if n < 10 then n + 48 else n + 87
/-- The text of a byte. -/
def t1 (c : Nat) : List Nat := if pl c = true then [c] else [37, hx (c / 16), hx (c % 16)]
/-- The text of a key. -/
def txt (l : List Nat) : List Nat := l.flatMap t1
theorem pl_iff (c : Nat) : pl c = true ↔ (97 ≤ c ∧ c ≤ 122) ∨ (48 ≤ c ∧ c ≤ 57) := by simp [pl]
theorem pl_37 : pl 37 = false := rfl
theorem hx_inj {m n : Nat} (hm : m < 16) (hn : n < 16) (h : hx m = hx n) : m = n := by
  unfold hx at h
  split at h <;> split at h <;> omega
theorem hx_pl {n : Nat} (h : n < 16) : pl (hx n) = true := by
  rw [pl_iff]
  unfold hx
  split <;> omega
theorem hx_lt {n : Nat} (h : n < 16) : hx n < 256 := by
  unfold hx
  split <;> omega
theorem t1_pl {c : Nat} (h : pl c = true) : t1 c = [c] := by rw [t1, if_pos h]
theorem t1_no {c : Nat} (h : pl c = false) : t1 c = [37, hx (c / 16), hx (c % 16)] := by
  rw [t1, if_neg (by rw [h]; decide)]
theorem t1_len (c : Nat) : 1 ≤ (t1 c).length ∧ (t1 c).length ≤ 3 := by
  cases h : pl c
  · rw [t1_no h]
    simp
  · rw [t1_pl h]
    simp
theorem t1_lt {c : Nat} (hc : c < 256) : ∀ x ∈ t1 c, x < 256 := by
  intro x hx
  cases h : pl c
  · rw [t1_no h] at hx
    simp only [List.mem_cons, List.not_mem_nil, or_false] at hx
    rcases hx with rfl | rfl | rfl
    · omega
    · exact hx_lt (by omega)
    · exact hx_lt (by omega)
  · rw [t1_pl h] at hx
    simp at hx
    omega
theorem t1_cut {a b : Nat} (ha : a < 256) (hb : b < 256) {x y : List Nat} (h : t1 a ++ x = t1 b ++ y) : a = b ∧ x = y := by
  cases h1 : pl a <;> cases h2 : pl b
  · rw [t1_no h1, t1_no h2] at h
    simp only [List.cons_append, List.nil_append, List.cons.injEq, true_and] at h
    have e1 := hx_inj (by omega) (by omega) h.1
    have e2 := hx_inj (by omega) (by omega) h.2.1
    exact ⟨by omega, h.2.2⟩
  · rw [t1_no h1, t1_pl h2] at h
    simp only [List.cons_append, List.nil_append, List.cons.injEq] at h
    rw [← h.1, pl_37] at h2
    cases h2
  · rw [t1_pl h1, t1_no h2] at h
    simp only [List.cons_append, List.nil_append, List.cons.injEq] at h
    rw [h.1, pl_37] at h1
    cases h1
  · rw [t1_pl h1, t1_pl h2] at h
    simp only [List.cons_append, List.nil_append, List.cons.injEq] at h
    exact h
theorem txt_cons (c : Nat) (l : List Nat) : txt (c :: l) = t1 c ++ txt l := by simp [txt]
theorem txt_append (a b : List Nat) : txt (a ++ b) = txt a ++ txt b := by simp [txt]
theorem txt_snoc (a : List Nat) (c : Nat) : txt (a ++ [c]) = txt a ++ t1 c := by simp [txt]
theorem txt_nil {l : List Nat} (h : txt l = []) : l = [] := by
  cases l with
  | nil => rfl
  | cons c l =>
    have := (t1_len c).1
    rw [txt_cons] at h
    have e : (t1 c ++ txt l).length = 0 := by rw [h]; rfl
    rw [List.length_append] at e
    omega
/-- What begins with the text of some bytes: the key does. -/
theorem txt_cut : ∀ {k k' : List Nat} {r : List Nat}, (∀ x ∈ k, x < 256) → (∀ x ∈ k', x < 256) → txt k ++ r = txt k' → ∃ k2, k' = k ++ k2 ∧ txt k2 = r ∧ ∀ x ∈ k2, x < 256
  | [], k', r, _, h', e => ⟨k', rfl, e.symm, h'⟩
  | a :: k, [], r, _, _, e => by
    have := (t1_len a).1
    rw [txt_cons] at e
    have e : (t1 a ++ txt k ++ r).length = 0 := by rw [e]; rfl
    rw [List.length_append, List.length_append] at e
    omega
  | a :: k, b :: k', r, h, h', e => by
    rw [txt_cons, txt_cons, List.append_assoc] at e
    obtain ⟨rfl, e2⟩ := t1_cut (h a (by simp)) (h' b (by simp)) e
    obtain ⟨k2, rfl, e3, h3⟩ := txt_cut (fun x hx => h x (by simp [hx])) (fun x hx => h' x (by simp [hx])) e2
    exact ⟨k2, rfl, e3, h3⟩
theorem txt_inj {k k' : List Nat} (h : ∀ x ∈ k, x < 256) (h' : ∀ x ∈ k', x < 256) (e : txt k = txt k') : k = k' := by
  obtain ⟨k2, rfl, e2, -⟩ := txt_cut (r := []) h h' (by simpa using e)
  rw [txt_nil e2]
  simp
theorem txt_len (l : List Nat) : l.length ≤ (txt l).length ∧ (txt l).length ≤ 3 * l.length := by
  induction l with
  | nil => simp [txt]
  | cons c l ih =>
    have := t1_len c
    rw [txt_cons, List.length_append, List.length_cons]
    omega
theorem txt_lt {l : List Nat} (h : ∀ x ∈ l, x < 256) : ∀ x ∈ txt l, x < 256 := by
  intro x hx
  simp only [txt, List.mem_flatMap] at hx
  obtain ⟨c, hc, hx⟩ := hx
  exact t1_lt (h c hc) x hx
theorem txt_form {l : List Nat} (h : ∀ x ∈ l, x < 256) : ∀ x ∈ txt l, pl x = true ∨ x = 37 := by
  intro x hx
  simp only [txt, List.mem_flatMap] at hx
  obtain ⟨c, hc, hx⟩ := hx
  have := h c hc
  cases hp : pl c
  · rw [t1_no hp] at hx
    simp only [List.mem_cons, List.not_mem_nil, or_false] at hx
    rcases hx with rfl | rfl | rfl
    · exact .inr rfl
    · exact .inl (hx_pl (by omega))
    · exact .inl (hx_pl (by omega))
  · rw [t1_pl hp] at hx
    simp at hx
    rw [hx]
    exact .inl hp

/-- Is a byte a digit of base 16, and which. -/
def dgB (c : Nat) : Bool := (decide (48 ≤ c) && decide (c ≤ 57)) || (decide (97 ≤ c) && decide (c ≤ 102))
def dg (c : Nat) : Nat := if 48 ≤ c ∧ c ≤ 57 then c - 48 else if 97 ≤ c ∧ c ≤ 102 then c - 87 else 0
theorem dg_lt (c : Nat) : dg c < 16 := by
  unfold dg
  split
  · omega
  · split <;> omega
theorem dg_hx {c : Nat} (h : dgB c = true) : hx (dg c) = c := by
  simp only [dgB, Bool.or_eq_true, Bool.and_eq_true, decide_eq_true_eq] at h
  unfold dg hx
  split
  · rw [if_pos (by omega)]
    omega
  · rw [if_pos (show 97 ≤ c ∧ c ≤ 102 by omega), if_neg (by omega)]
    omega
theorem hx_dg {n : Nat} (h : n < 16) : dgB (hx n) = true ∧ dg (hx n) = n := by
  constructor
  · simp only [dgB, Bool.or_eq_true, Bool.and_eq_true, decide_eq_true_eq]
    unfold hx
    split <;> omega
  · unfold dg hx
    by_cases h1 : n < 10
    · rw [if_pos h1, if_pos (by omega)]
      omega
    · rw [if_neg h1, if_neg (by omega), if_pos (by omega)]
      omega

/-- What Parse tells of a text. -/
structure Told (l : List Nat) (r : ByteArray) (ok : Bool) : Prop where
  is : (ok = true ∧ txt (tx r) = l) ∨ (ok = false ∧ r = ⟨#[]⟩ ∧ ∀ k, (∀ x ∈ k, x < 256) → txt k ≠ l)
theorem Told.eq {l : List Nat} {r q : ByteArray} {a b : Bool} (x : Told l r a) (y : Told l q b) : r = q ∧ a = b := by
  rcases x.is with ⟨rfl, e1⟩ | ⟨rfl, e1, n1⟩ <;> rcases y.is with ⟨rfl, e2⟩ | ⟨rfl, e2, n2⟩
  · exact ⟨tx_inj (txt_inj (tx_lt _) (tx_lt _) (e1.trans e2.symm)), rfl⟩
  · exact absurd e1 (n2 _ (tx_lt _))
  · exact absurd e2 (n1 _ (tx_lt _))
  · exact ⟨e1.trans e2.symm, rfl⟩
/-- What takeByte tells of a text. -/
structure Tak (l : List Nat) (b n : Nat) (ok : Bool) : Prop where
  is : (ok = true ∧ b < 256 ∧ n = (t1 b).length ∧ ∃ r, l = t1 b ++ r) ∨ (ok = false ∧ b = 0 ∧ n = 0 ∧ ∀ c, c < 256 → ∀ r, l ≠ t1 c ++ r)
end Go.Proofs.Ytmeclfgehpbjlaa
