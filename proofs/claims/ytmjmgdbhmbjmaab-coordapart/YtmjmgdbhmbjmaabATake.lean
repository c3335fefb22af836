/- Items of several texts. -/
import Derived.Deep.RegionHeld
import Derived.BigRegion
import Derived.ChangeKeysEq
import Derived.Test.YtmjmgdbhmbjmaabAVec3
namespace Go.Proofs.Ytmjmgdbhmbjmaab
open Go.RowKit
theorem take_at {P : Program} {md : Region.Mode} {ops : Array Oper} {Q : Exit → Act → World → Prop} {S : World → Prop} {i : Nat} {oi : Oper} (d : Nat) {v : Value} {fuel : Nat} {listed : Array Bool} {a : Act} {w : World} (hi : ops[i]? = some oi) (hd : oi.dst = some d)
  (hs : Region.noSelect ops = true) (hf : Region.free md ops listed i = true) (hr : (Region.ready md ops listed).contains i = true)
  (hQ : ∀ c a w, Q (.panic c) (a.put oi.dst v) w → Q (.panic c) a w) (hy : YieldsIf P ops S oi v a) (hS : S w)
  (h : wpAnyH P md ops Q S fuel (listed.setIfInBounds i true) (a.put (some d) v) w) : wpAnyH P md ops Q S (fuel + 1) listed a w :=
 wpAnyH_take hi hs hf hr hQ hy hS (by rw [hd]; exact h)
def eqB (f g : Nat → Int) : Bool := @decide (∀ j, j < 8 → f j = g j) (dec8 (fun j => f j = g j) (fun _ => inferInstance))
theorem eql_dot (a b c d : Int) (W : World) : (binOp .eql 53 (.agg #[.int .i64 a, .int .i64 b]) (.agg #[.int .i64 c, .int .i64 d])).run Try.prog W = .ok (.bool (decide (a = c ∧ b = d))) W := by
 go_simp
 by_cases h1 : a = c <;> by_cases h2 : b = d <;> simp [h1, h2]
theorem info2 : ∃ i, Try.prog.info? 2 = some i := by
 cases h : Try.prog.info? 2 with
 | some i => exact ⟨i, rfl⟩
 | none =>
  have : (Try.prog.info? 2).isSome = true := by kernel_rfl
  rw [h] at this
  cases this
theorem eql_vec (f g : Nat → Int) (W : World) : (binOp .eql 27 (.agg #[.int .i64 (f 0), .int .i64 (f 1), .int .i64 (f 2), .int .i64 (f 3), .int .i64 (f 4), .int .i64 (f 5), .int .i64 (f 6), .int .i64 (f 7)]) (.agg #[.int .i64 (g 0), .int .i64 (g 1), .int .i64 (g 2), .int .i64 (g 3), .int .i64 (g 4), .int .i64 (g 5), .int .i64 (g 6), .int .i64 (g 7)])).run Try.prog W = .ok (.bool (eqB f g)) W := by
 have hz : ∀ {n : Nat} (h : n < 8) (f : Nat → Int) (W : World), (part 2 #[.int .i64 (f 0), .int .i64 (f 1), .int .i64 (f 2), .int .i64 (f 3), .int .i64 (f 4), .int .i64 (f 5), .int .i64 (f 6), .int .i64 (f 7)] (n * 1)).run Try.prog W = .ok (.int .i64 (f n)) W := by
  intro n h f W
  obtain rfl | rfl | rfl | rfl | rfl | rfl | rfl | rfl : n = 0 ∨ n = 1 ∨ n = 2 ∨ n = 3 ∨ n = 4 ∨ n = 5 ∨ n = 6 ∨ n = 7 := by omega
  all_goals kernel_rfl
 obtain ⟨i, hi⟩ := info2
 have hb : binOp .eql 27 (.agg #[.int .i64 (f 0), .int .i64 (f 1), .int .i64 (f 2), .int .i64 (f 3), .int .i64 (f 4), .int .i64 (f 5), .int .i64 (f 6), .int .i64 (f 7)]) (.agg #[.int .i64 (g 0), .int .i64 (g 1), .int .i64 (g 2), .int .i64 (g 3), .int .i64 (g 4), .int .i64 (g 5), .int .i64 (g 6), .int .i64 (g 7)]) = (do pure (.bool (← Op.equal 27 (.agg #[.int .i64 (f 0), .int .i64 (f 1), .int .i64 (f 2), .int .i64 (f 3), .int .i64 (f 4), .int .i64 (f 5), .int .i64 (f 6), .int .i64 (f 7)]) (.agg #[.int .i64 (g 0), .int .i64 (g 1), .int .i64 (g 2), .int .i64 (g 3), .int .i64 (g 4), .int .i64 (g 5), .int .i64 (g 6), .int .i64 (g 7)])))) := rfl
 have h1 : Try.prog.cellsOf 2 = 1 := by kernel_rfl
 have he : ∀ x y W, (Op.equalIn 9999 2 (.int .i64 x) (.int .i64 y)).run Try.prog W = .ok (x == y) W := fun x y W => run_equalIn_int W 9998 2 .i64 .i64 x y (by kernel_rfl)
 have hl : ∀ is : List Nat, (∀ j ∈ is, j < 8) → (Op.eqItems 9999 2 1 #[.int .i64 (f 0), .int .i64 (f 1), .int .i64 (f 2), .int .i64 (f 3), .int .i64 (f 4), .int .i64 (f 5), .int .i64 (f 6), .int .i64 (f 7)] #[.int .i64 (g 0), .int .i64 (g 1), .int .i64 (g 2), .int .i64 (g 3), .int .i64 (g 4), .int .i64 (g 5), .int .i64 (g 6), .int .i64 (g 7)] is).run Try.prog W = .ok (is.all fun j => f j == g j) W := by
  intro is
  induction is with
  | nil => intro _; rfl
  | cons j is ih =>
   intro hj
   have hj0 : j < 8 := hj j (by simp)
   simp only [Op.eqItems, Sem.run_bind, hz hj0, Result.andThen_ok, he]
   by_cases e : f j = g j
   ·simp [e, ih (fun k hk => hj k (by simp [hk]))]
   ·simp [e]
 have hq : (Op.equal 27 (.agg #[.int .i64 (f 0), .int .i64 (f 1), .int .i64 (f 2), .int .i64 (f 3), .int .i64 (f 4), .int .i64 (f 5), .int .i64 (f 6), .int .i64 (f 7)]) (.agg #[.int .i64 (g 0), .int .i64 (g 1), .int .i64 (g 2), .int .i64 (g 3), .int .i64 (g 4), .int .i64 (g 5), .int .i64 (g 6), .int .i64 (g 7)])).run Try.prog W = .ok ((List.range 8).all fun j => f j == g j) W := by
  have := run_equalIn_array (P := Try.prog) (w := W) 9999 (t := 27) (e := 2) (n := 8) #[.int .i64 (f 0), .int .i64 (f 1), .int .i64 (f 2), .int .i64 (f 3), .int .i64 (f 4), .int .i64 (f 5), .int .i64 (f 6), .int .i64 (f 7)] #[.int .i64 (g 0), .int .i64 (g 1), .int .i64 (g 2), .int .i64 (g 3), .int .i64 (g 4), .int .i64 (g 5), .int .i64 (g 6), .int .i64 (g 7)] (by kernel_rfl) hi
  rw [h1, hl (List.range 8) (fun j hj => by simpa using hj)] at this
  exact this
 rw [hb, Sem.run_bind, hq, Result.andThen_ok]
 have hx : ((List.range 8).all fun j => f j == g j) = eqB f g := by
  rw [Bool.eq_iff_iff]
  simp [eqB]
 rw [hx]
 rfl
end Go.Proofs.Ytmjmgdbhmbjmaab
