/- What was written is read, call by call; with a byte less it is an error: plain facts. -/
import Derived.Test.YtkjinhbhlcbfdaaWrites
namespace Go.Proofs.Ytkjinhbhlcbfdaa

/-- The state behind taking a call. -/
def takeC (c : CallD) (s : RS) : RS := if c.act = 0 then (numS s).2 else if c.act = 1 then (intS s).2 else if c.act = 2 then (flagS s).2 else (textS 300 s).2
/-- What was taken is what was written. -/
def sameC (c : CallD) (s : RS) : Prop := if c.act = 0 then (numS s).1 = c.num else if c.act = 1 then (intS s).1 = c.int else if c.act = 2 then (flagS s).1 = c.flag else (textS 300 s).1 = c.text

/-- The bytes of d calls from j on; those with a text above 300 are passed by. -/
def encF (cs : Nat → CallD) : Nat → Nat → List Nat
  | 0, _ => []
  | d + 1, j => (if (cs j).text.length ≤ 300 then encB (cs j) else []) ++ encF cs d (j + 1)

theorem enc_pos (c : CallD) : 0 < (encB c).length := by
  have h1 := numB_pos c.num
  have h2 := numB_pos (zig c.int)
  have h3 := numB_pos c.text.length
  unfold encB
  split
  · exact h1
  · split
    · exact h2
    · split
      · simp
      · simp; omega

theorem take_whole (c : CallD) (hn : c.num < 18446744073709551616) (i0 : -9223372036854775808 ≤ c.int) (i1 : c.int ≤ 9223372036854775807) (ht : c.text.length ≤ 300) (l : List Nat) : takeC c (encB c ++ l, 0) = (l, 0) ∧ sameC c (encB c ++ l, 0) := by
  unfold takeC sameC encB
  split
  · rw [num_back hn]; exact ⟨rfl, rfl⟩
  · split
    · rw [int_back i0 i1]; exact ⟨rfl, rfl⟩
    · split
      · have := flag_back c.flag l
        simp only [List.cons_append, List.nil_append]
        rw [this]
        exact ⟨rfl, rfl⟩
      · rw [List.append_assoc, text_back c.text l (by omega) ht]; exact ⟨rfl, rfl⟩

theorem num_cut {n k : Nat} (hn : n < 18446744073709551616) (hk : k < (numB n).length) : numS ((numB n).take k, 0) = (0, ([], 2)) := by
  simp only [numS, ne_eq, not_true_eq_false, if_false]
  rw [rd_short n 0 0 k (by omega) (by omega) (by omega) hk]

theorem take_cut (c : CallD) (hn : c.num < 18446744073709551616) (i0 : -9223372036854775808 ≤ c.int) (i1 : c.int ≤ 9223372036854775807) (ht : c.text.length ≤ 300) {k : Nat} (hk : k < (encB c).length) : takeC c ((encB c).take k, 0) = ([], 2) := by
  unfold takeC
  unfold encB at hk ⊢
  split
  · rename_i h; rw [if_pos h] at hk
    rw [num_cut hn hk]
  · rename_i h0; rw [if_neg h0] at hk
    split
    · rename_i h; rw [if_pos h] at hk
      simp only [intS]
      rw [num_cut (zig_lt i0 i1) hk]
    · rename_i h1; rw [if_neg h1] at hk
      split
      · rename_i h; rw [if_pos h] at hk
        have : k = 0 := by simp at hk; omega
        subst this
        simp [flagS]
      · rename_i h; rw [if_neg h] at hk
        by_cases hkn : k < (numB c.text.length).length
        · rw [List.take_append_of_le_length (by omega)]
          unfold textS countS
          rw [num_cut (by omega) hkn]
          simp
        · have e : (numB c.text.length ++ c.text).take k = numB c.text.length ++ c.text.take (k - (numB c.text.length).length) := by
            rw [List.take_append, List.take_of_length_le (by omega)]
          rw [e]
          unfold textS
          rw [count_back (by omega) _ ht]
          simp only [List.length_append] at hk
          simp only [ne_eq, not_true_eq_false, if_false]
          rw [if_pos (by rw [List.length_take]; omega)]

theorem take_err (c : CallD) {er : Nat} (h : er ≠ 0) : takeC c ([], er) = ([], er) := by
  unfold takeC
  split
  · simp [numS, h]
  · split
    · simp [intS, numS, h]
    · split
      · simp [flagS, h]
      · simp [textS, countS, numS, h]

/-- Where a reader of the first k bytes of X stands ahead of call j. -/
def At (cs : Nat → CallD) (N k : Nat) (X : List Nat) (j : Nat) (s : RS) : Prop :=
  (s.2 ≠ 0 ∧ s.1 = [] ∧ k < X.length) ∨ ∃ k', s = ((encF cs (N - j) j).take k', 0) ∧ k' ≤ (encF cs (N - j) j).length ∧ (k' = (encF cs (N - j) j).length ↔ k = X.length) ∧ k ≤ X.length

theorem at_start (cs : Nat → CallD) (N k : Nat) (hk : k ≤ (encF cs N 0).length) : At cs N k (encF cs N 0) 0 ((encF cs N 0).take k, 0) :=
  .inr ⟨k, rfl, hk, Iff.rfl, hk⟩
theorem at_end {cs : Nat → CallD} {N k : Nat} {X : List Nat} {s : RS} (h : At cs N k X N s) : (k = X.length → s = ([], 0)) ∧ (k < X.length → endS s ≠ 0) := by
  rcases h with ⟨h1, h2, h3⟩ | ⟨k', rfl, h2, h3, h4⟩
  · refine ⟨fun h => by omega, fun _ => ?_⟩
    unfold endS
    rw [if_neg (by simp [h2])]
    exact h1
  · simp only [Nat.sub_self, encF] at h2 h3 ⊢
    simp only [List.length_nil] at h2 h3
    exact ⟨fun _ => by simp, fun h => by have := h3.1 (by omega); omega⟩
theorem at_skip {cs : Nat → CallD} {N k j : Nat} {X : List Nat} {s : RS} (h : At cs N k X j s) (hj : j < N) (ht : ¬ (cs j).text.length ≤ 300) : At cs N k X (j + 1) s := by
  rcases h with h | ⟨k', rfl, h2, h3, h4⟩
  · exact .inl h
  · have e : encF cs (N - j) j = encF cs (N - (j + 1)) (j + 1) := by
      rw [show N - j = (N - (j + 1)) + 1 by omega]
      simp [encF, ht]
    rw [e] at h2 h3 ⊢
    exact .inr ⟨k', rfl, h2, h3, h4⟩
theorem at_step {cs : Nat → CallD} {N k j : Nat} {X : List Nat} {s : RS} (h : At cs N k X j s) (hj : j < N) (ht : (cs j).text.length ≤ 300) (hn : (cs j).num < 18446744073709551616) (i0 : -9223372036854775808 ≤ (cs j).int) (i1 : (cs j).int ≤ 9223372036854775807) :
    At cs N k X (j + 1) (takeC (cs j) s) ∧ (sameC (cs j) s ∨ (endS (takeC (cs j) s) ≠ 0 ∧ k < X.length)) := by
  have err : ∀ er, er ≠ 0 → endS (([] : List Nat), er) ≠ 0 := fun er h => by simp [endS, h]
  rcases h with ⟨h1, h2, h3⟩ | ⟨k', rfl, h2, h3, h4⟩
  · obtain ⟨l, er⟩ := s
    simp only at h1 h2
    subst h2
    rw [take_err _ h1]
    exact ⟨.inl ⟨h1, rfl, h3⟩, .inr ⟨err er h1, h3⟩⟩
  · have e : encF cs (N - j) j = encB (cs j) ++ encF cs (N - (j + 1)) (j + 1) := by
      rw [show N - j = (N - (j + 1)) + 1 by omega]
      simp [encF, ht]
    rw [e] at h2 h3 ⊢
    by_cases hk : k' < (encB (cs j)).length
    · rw [List.take_append_of_le_length (by omega), take_cut _ hn i0 i1 ht hk]
      have hlt : k < X.length := by
        rcases Nat.lt_or_ge k X.length with h | h
        · exact h
        · have := h3.2 (by omega)
          simp at this
          omega
      exact ⟨.inl ⟨by simp, rfl, hlt⟩, .inr ⟨err 2 (by decide), hlt⟩⟩
    · rw [List.take_append, List.take_of_length_le (by omega)]
      have := take_whole (cs j) hn i0 i1 ht ((encF cs (N - (j + 1)) (j + 1)).take (k' - (encB (cs j)).length))
      rw [this.1]
      refine ⟨.inr ⟨k' - (encB (cs j)).length, rfl, ?_, ?_, h4⟩, .inl this.2⟩
      · simp only [List.length_append] at h2
        omega
      · simp only [List.length_append] at h2 h3
        rw [← h3]
        omega
theorem encF_lt {cs : Nat → CallD} (d : Nat) : ∀ j, (∀ i, j ≤ i → i < j + d → ∀ x ∈ (cs i).text, x < 256) → ∀ x ∈ encF cs d j, x < 256 := by
  induction d with
  | zero => intro j _ x hx; simp [encF] at hx
  | succ d ih =>
    intro j h x hx
    simp only [encF, List.mem_append] at hx
    rcases hx with hx | hx
    · split at hx
      · unfold encB at hx
        split at hx
        · exact numB_lt _ _ hx
        · split at hx
          · exact numB_lt _ _ hx
          · split at hx
            · simp at hx; subst hx; split <;> omega
            · rcases List.mem_append.1 hx with h1 | h1
              · exact numB_lt _ _ h1
              · exact h j (by omega) (by omega) x h1
      · simp at hx
    · exact ih (j + 1) (fun i h1 h2 => h i (by omega) (by omega)) x hx
end Go.Proofs.Ytkjinhbhlcbfdaa
