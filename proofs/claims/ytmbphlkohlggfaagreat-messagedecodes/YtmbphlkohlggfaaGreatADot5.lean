/- Items of several texts. -/
import Derived.Lib.SlBytesConst
import Derived.Test.YtmbphlkohlggfaaGreatALiv
import Derived.Test.YtmbphlkohlggfaaGreatAGMay
namespace Go.Proofs.YtmbphlkohlggfaaGreat
theorem cov_iff {f : Nat → Int} {n N : Int} : coversB f n N = true ↔ 0 ≤ n ∧ n < 8 ∧ 1 ≤ N ∧ N ≤ f n.toNat := by simp [coversB]
end Go.Proofs.YtmbphlkohlggfaaGreat

namespace Go.Proofs.YtmbphlkohlggfaaGreat
open Go.RowKit
theorem strOf_eq {a b : List Nat} (ha : ∀ x ∈ a, x < 256) (hb : ∀ x ∈ b, x < 256) : strOf a = strOf b ↔ a = b := by
 refine ⟨fun h => ?_, fun h => by rw [h]⟩
 have key : ∀ (a b : List Nat), (∀ x ∈ a, x < 256) → (∀ x ∈ b, x < 256) → (a.map fun (x : Nat) => ((x : Int).toNat.toUInt8)) = (b.map fun (x : Nat) => ((x : Int).toNat.toUInt8)) → a = b := by
  intro a
  induction a with
  | nil => intro b _ _ h; cases b with
   | nil => rfl
   | cons => simp at h
  | cons x a ih =>
   intro b ha hb h
   cases b with
   | nil => simp at h
   | cons y b =>
    simp only [List.map_cons, List.cons.injEq] at h
    have e1 := congrArg UInt8.toNat h.1
    have hx := ha x (by simp)
    have hy := hb y (by simp)
    simp [Nat.toUInt8, UInt8.toNat_ofNat', Nat.mod_eq_of_lt hx, Nat.mod_eq_of_lt hy] at e1
    rw [e1, ih b (fun z hz => ha z (by simp [hz])) (fun z hz => hb z (by simp [hz])) h.2]
 refine key a b ha hb ?_
 have e := congrArg (fun s : ByteArray => s.data.toList) h
 simp only [strOf, strOfNums] at e
 simpa [Function.comp_def] using e
theorem A.ext {x y : A} (h1 : x.node = y.node) (h2 : x.num = y.num) (h3 : x.data = y.data) (h4 : x.dead = y.dead) : x = y := by
 cases x
 cases y
 simp only at h1 h2 h3 h4
 subst h1 h2 h3 h4
 rfl
def A.dec (x y : A) : Decidable (x = y) :=
 if h : x.node = y.node ∧ x.num = y.num ∧ x.data = y.data ∧ x.dead = y.dead then .isTrue (A.ext h.1 h.2.1 h.2.2.1 h.2.2.2) else .isFalse (fun e => h (by subst e; exact ⟨rfl, rfl, rfl, rfl⟩))
def sameR (a b : List A) : Bool := haveI : DecidableEq A := A.dec; decide (a = b)
def sameS (f g : Nat → Int) (l k : List A) : Bool := eqB f g && sameR l k
end Go.Proofs.YtmbphlkohlggfaaGreat

namespace Go.Proofs.YtmbphlkohlggfaaGreat
open Go.RowKit
def dcs (d : Int × Int) : List Value := [.int .i64 d.1, .int .i64 d.2]
theorem dcs_len (d : Int × Int) : (dcs d).length = 2 := rfl
theorem dcs_one (d : Int × Int) : ∀ u ∈ dcs d, u.oneCell' = true := by simp [dcs, Value.oneCell']
theorem Tryz.infoDt : (Tryz.prog.info? 93).map (fun i => (i.zero, i.size, i.bytes)) = some (some (.agg #[.int .i64 0, .int .i64 0]), 2, 16) := by kernel_rfl
end Go.Proofs.YtmbphlkohlggfaaGreat
