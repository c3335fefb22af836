/- Nodes by a number's bits; rows of nodes that a law makes; two that have one in common. -/
import Derived.Test.YtapopmcdnpplbaaArg21
import Derived.Test.YtapopmcdnpplbaaGro14
import Derived.Laws.BitsAll
import Derived.Laws.Entries
namespace Go.Proofs.Ytapopmcdnpplbaa
set_option maxRecDepth 100000
open Go.RowKit

/-- A number's bit. -/
def bit (W k : Nat) : Bool := decide (W / 2 ^ k % 2 = 1)
/-- The places below i where a number has a bit. -/
def bs (W : Nat) : Nat → List Nat
  | 0 => []
  | i + 1 => if bit W i then bs W i ++ [i] else bs W i
theorem bs_len (W : Nat) : ∀ i, (bs W i).length = cnt (bit W) i
  | 0 => rfl
  | i + 1 => by
    show (if bit W i then bs W i ++ [i] else bs W i).length = cnt (bit W) i + (bit W i).toNat
    cases h : bit W i
    · simp [bs_len W i]
    · simp [bs_len W i]
theorem bs_mem (W k : Nat) : ∀ i, k ∈ bs W i ↔ k < i ∧ bit W k = true
  | 0 => by simp [bs]
  | i + 1 => by
    show k ∈ (if bit W i then bs W i ++ [i] else bs W i) ↔ _
    have ih := bs_mem W k i
    cases h : bit W i
    · simp only [Bool.false_eq_true, if_false]
      rw [ih]
      refine ⟨fun ⟨a, b⟩ => ⟨by omega, b⟩, fun ⟨a, b⟩ => ⟨?_, b⟩⟩
      rcases Nat.lt_or_ge k i with h2 | h2
      · exact h2
      · have : k = i := by omega
        subst this
        rw [h] at b
        cases b
    · simp only [if_true]
      rw [List.mem_append, ih, List.mem_singleton]
      refine ⟨fun h2 => ?_, fun ⟨a, b⟩ => ?_⟩
      · rcases h2 with ⟨a, b⟩ | rfl
        · exact ⟨by omega, b⟩
        · exact ⟨by omega, h⟩
      · rcases Nat.lt_or_ge k i with h2 | h2
        · exact .inl ⟨h2, b⟩
        · exact .inr (by omega)
theorem apart_le {P Q : Nat → Bool} : ∀ {i : Nat}, (∀ k, k < i → P k = true → Q k = false) → cnt P i + cnt Q i ≤ i
  | 0, _ => Nat.le_refl _
  | i + 1, h => by
    have ih := apart_le (P := P) (Q := Q) (i := i) fun k hk => h k (by omega)
    have hi := h i (by omega)
    show cnt P i + (P i).toNat + (cnt Q i + (Q i).toNat) ≤ i + 1
    cases hp : P i
    · cases Q i <;> simp <;> omega
    · rw [hi hp]
      simp
      omega
/-- So many of each: one is in both. -/
theorem meet_some {X Y N : Nat} (h : N < (bs X N).length + (bs Y N).length) (hn : ∀ x, x ∈ bs X N → x ∉ bs Y N) : False := by
  rw [bs_len, bs_len] at h
  have := apart_le (P := bit X) (Q := bit Y) (i := N) fun k hk hp => by
    cases hq : bit Y k
    · rfl
    · exact absurd ((bs_mem Y k N).2 ⟨hk, hq⟩) (hn k ((bs_mem X k N).2 ⟨hk, hp⟩))
  omega

theorem shr_at {X i : Nat} (hi : i < 8) (yk : IntKind) : Op.shift .shr .u64 (X : Int) yk (i : Int) = pure (.int .u64 ((X : Int) / 2 ^ i)) := by
  rw [shift_shr .u64 yk _ _ (by omega) (by simp [IntKind.bits]; omega)]
  congr 2
theorem and_one {Y : Nat} (hY : Y < 18446744073709551616) : bits .and .u64 (Y : Int) 1 = ((Y % 2 : Nat) : Int) := by
  have h := u64_and_nat Y 1 hY (by decide)
  rw [Nat.and_one_is_mod] at h
  exact h
theorem bit_cast (X i : Nat) : (X : Int) / 2 ^ i = ((X / 2 ^ i : Nat) : Int) := by
  push_cast
  rfl
theorem bit_yes {X i : Nat} (hX : X < 18446744073709551616) (h : bit X i = true) : bits .and .u64 ((X : Int) / 2 ^ i) 1 = 1 := by
  rw [bit_cast, and_one (Nat.lt_of_le_of_lt (Nat.div_le_self _ _) hX), of_decide_eq_true h]
  rfl
theorem bit_no {X i : Nat} (hX : X < 18446744073709551616) (h : bit X i = false) : bits .and .u64 ((X : Int) / 2 ^ i) 1 = 0 := by
  rw [bit_cast, and_one (Nat.lt_of_le_of_lt (Nat.div_le_self _ _) hX)]
  have := of_decide_eq_false h
  have : X / 2 ^ i % 2 = 0 := by omega
  rw [this]
  rfl

def ncs (n : Nat) : List Value := [.int .i64 (n : Int)]
theorem ncs_len (n : Nat) : (ncs n).length = 1 := rfl
theorem ncs_one (n : Nat) : ∀ u ∈ ncs n, u.oneCell' = true := by simp [ncs, Value.oneCell']
theorem Try.infoI : (Try.prog.info? 3).map (fun i => (i.zero, i.size, i.bytes)) = some (some (.int .i64 0), 1, 8) := by kernel_rfl
/-- Two rows of nodes, of the law's own, each for itself. -/
structure Two (W : World) (ta tb : Option Addr) (ca cb : Nat) (xs ys : List Nat) (w : World) : Prop where
  oa : OwnG 3 1 ncs w ta ca xs
  ob : OwnG 3 1 ncs w tb cb ys
  na : ∀ k, blk ta = some k → W.heap.size ≤ k
  nb : ∀ k, blk tb = some k → W.heap.size ≤ k
  ne : ∀ k, blk ta = some k → blk tb ≠ some k
  off : Off (fun _ => False) W w
theorem Two.swap {W : World} {ta tb : Option Addr} {ca cb : Nat} {xs ys : List Nat} {w : World} (h : Two W ta tb ca cb xs ys w) : Two W tb ta cb ca ys xs w :=
  ⟨h.ob, h.oa, h.nb, h.na, fun k h1 h2 => h.ne k h2 h1, h.off⟩
theorem Two.start (W : World) {w : World} (h : Off (fun _ => False) W w) : Two W none none 0 0 [] [] w :=
  ⟨OwnG.nil _ _ _ _, OwnG.nil _ _ _ _, fun k hk => by simp [blk] at hk, fun k hk => by simp [blk] at hk, fun k hk => by simp [blk] at hk, h⟩
theorem Two.alloc {W : World} {ta tb : Option Addr} {ca cb : Nat} {xs ys : List Nat} {w : World} (h : Two W ta tb ca cb xs ys w) (o : Obj) : Two W ta tb ca cb xs ys (w.alloc o) :=
  ⟨h.oa.off ((Off.refl (fun _ => False) w).alloc o) (fun _ _ _ h => h), h.ob.off ((Off.refl (fun _ => False) w).alloc o) (fun _ _ _ h => h), h.na, h.nb, h.ne, h.off.alloc o⟩
/-- One more in the first. -/
theorem Two.app {W : World} {ta tb : Option Addr} {ca cb : Nat} {xs ys : List Nat} {w w' : World} (h : Two W ta tb ca cb xs ys w) {t' : Option Addr} {c' : Nat} {zs : List Nat}
    (own : OwnG 3 1 ncs w' t' c' zs) (o : Off (fun c => blk ta = some c) w w') (at' : blk t' = blk ta ∨ blk t' = some w.heap.size) : Two W t' tb c' cb zs ys w' := by
  have hs := h.off.size
  refine ⟨own, h.ob.off o (fun c _ hc e => h.ne c e hc), fun k hk => ?_, h.nb, fun k hk e => ?_, h.off.trans o (fun i hi e => absurd hi (by have := h.na i e; omega))⟩
  · rcases at' with e | e
    · exact h.na k (by rw [← e]; exact hk)
    · rw [e] at hk
      simp at hk
      omega
  · rcases at' with e2 | e2
    · exact h.ne k (by rw [← e2]; exact hk) e
    · rw [e2] at hk
      simp at hk
      have := h.ob.lt k e
      omega
theorem Two.at_ {W : World} {ta tb : Option Addr} {ca cb : Nat} {xs ys : List Nat} {w : World} (h : Two W ta tb ca cb xs ys w) {i x : Nat} (hi : xs[i]? = some x) : ∃ g, ta = some ⟨g, 0, none⟩ ∧ w.cell? ⟨g, i, none⟩ = some (.int .i64 (x : Int)) := by
  obtain ⟨g, e, kk⟩ := h.oa.at_ ncs_len hi
  have k0 := kk 0 _ rfl
  simp only [Nat.mul_one, Nat.add_zero] at k0
  exact ⟨g, e, k0⟩
end Go.Proofs.Ytapopmcdnpplbaa
