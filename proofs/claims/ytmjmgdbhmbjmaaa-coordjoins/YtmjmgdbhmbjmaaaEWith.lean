/- Items of several texts. -/
import Derived.Laws.ResultCell
import Derived.Deep.RegionHeld
import Derived.BigRegion
import Derived.ChangeKeysEq
import Derived.Test.YtmjmgdbhmbjmaaaEVec
namespace Go.Proofs.Ytmjmgdbhmbjmaaa
open Go.RowKit
def nodeB (n : Int) : Bool := decide (0 ≤ n ∧ n < 8)
def mayB (f : Nat → Int) : Bool := @decide (∀ j, j < 8 → 0 ≤ f j ∧ f j ≤ 1099511627776) (dec8 (fun j => 0 ≤ f j ∧ f j ≤ 1099511627776) (fun _ => inferInstance))
def lessB (a b c d : Int) : Bool := decide (a < c ∨ a = c ∧ b < d)
theorem node_any (n : Int) (w : World) : Calls Try.prog 83 #[.int .i64 n] w fun e w' => e = .returned (.bool (nodeB n)) ∧ w' = w := by
 by_cases h0 : 0 ≤ n
 ·by_cases h1 : n < 8
  ·have hb : nodeB n = true := by simp [nodeB]; omega
   have e0 : decide (0 ≤ n) = true := by simp; omega
   have e1 : decide (n < 8) = true := by simp; omega
   go_enter Try.func83, Try.ntmps83
   go_wp2
   go_ret
   exact ⟨by first | rfl | (rw [hb]; rfl), rfl⟩
  ·have hb : nodeB n = false := by simp [nodeB]; omega
   have e0 : decide (0 ≤ n) = true := by simp; omega
   have e1 : decide (n < 8) = false := by simp; omega
   go_enter Try.func83, Try.ntmps83
   go_wp2
   go_ret
   exact ⟨by first | rfl | (rw [hb]; rfl), rfl⟩
 ·have hb : nodeB n = false := by simp [nodeB]; omega
  have e0 : decide (0 ≤ n) = false := by simp; omega
  go_enter Try.func83, Try.ntmps83
  go_wp2
  go_ret
  exact ⟨by first | rfl | (rw [hb]; rfl), rfl⟩
set_option maxRecDepth 100000 in
theorem may_any (f : Nat → Int) (w : World) : Calls Try.prog 70 #[.agg #[.int .i64 (f 0), .int .i64 (f 1), .int .i64 (f 2), .int .i64 (f 3), .int .i64 (f 4), .int .i64 (f 5), .int .i64 (f 6), .int .i64 (f 7)]] w fun e w' => e = .returned (.bool (mayB f)) ∧ Off (fun _ => False) w w' := by
 go_enter Try.func70, Try.ntmps70
 go_wp2_with fail
 go_loopw [6] (fun y wr => ∃ n : Nat, y = .int .i64 (n : Int) ∧ n ≤ 8 ∧ (∀ j, j < n → 0 ≤ f j ∧ f j ≤ 1099511627776) ∧ Off (fun _ => False) w wr) (fun y _ => (8 - intOf y).toNat)
 case atStart => exact ⟨0, rfl, by omega, by simp, (Off.refl _ w).alloc _⟩
 case round =>
  obtain ⟨n, rfl, hn, hg, O⟩ := hrel
  have HG : Hid _ := hg
  clear hg
  by_cases h : n < 8
  ·have hd : decide ((n : Int) < 8) = true := by simp; omega
   have hi := idx_vec f h
   by_cases h0 : f n < 0
   ·have e0 : decide (f n < 0) = true := by simp; omega
    go_wp2_with fail
    go_ret
    refine ⟨?_, O⟩
    have hb : mayB f = false := by
     simp only [mayB, decide_eq_false_iff_not]
     intro hx
     have := hx n h
     omega
    rw [hb]; rfl
   ·have e0 : decide (f n < 0) = false := by simp; omega
    by_cases h1 : 1099511627776 < f n
    ·have e1 : decide (1099511627776 < f n) = true := by simp; omega
     go_wp2_with fail
     go_ret
     refine ⟨?_, O⟩
     have hb : mayB f = false := by
      simp only [mayB, decide_eq_false_iff_not]
      intro hx
      have := hx n h
      omega
     rw [hb]; rfl
    ·have e1 : decide (1099511627776 < f n) = false := by simp; omega
     go_wp2_with fail
     go_roundw
     case rel =>
      refine ⟨n + 1, by go_num, by omega, fun j hj => ?_, O⟩
      rcases Nat.lt_or_ge j n with h2 | h2
      ·exact HG.out j h2
      ·obtain rfl : j = n := by omega
       omega
     case measure => simp [intOf]; omega
  ·obtain rfl : n = 8 := by omega
   go_wp2_with fail
   go_ret
   refine ⟨?_, O⟩
   have hb : mayB f = true := by
    simp only [mayB, decide_eq_true_eq]
    exact HG.out
   rw [hb]; rfl
theorem less_any (a b c d : Int) (w : World) : Calls Try.prog 71 #[.agg #[.int .i64 a, .int .i64 b], .agg #[.int .i64 c, .int .i64 d]] w fun e w' => e = .returned (.bool (lessB a b c d)) ∧ Off (fun _ => False) w w' := by
 have o2 : ∀ x y, Off (fun _ => False) w ((w.alloc x).alloc y) := fun x y => ((Off.refl _ w).alloc _).alloc _
 by_cases h0 : a = c
 ·have e0 : (a != c) = false := by simp [h0]
  have hb : lessB a b c d = decide (b < d) := by simp [lessB, h0]
  go_enter Try.func71, Try.ntmps71
  go_wp2
  go_ret
  exact ⟨by first | rfl | (rw [hb]; rfl), o2 _ _⟩
 ·have e0 : (a != c) = true := by simp [h0]
  have hb : lessB a b c d = decide (a < c) := by simp [lessB, h0]
  go_enter Try.func71, Try.ntmps71
  go_wp2
  go_ret
  exact ⟨by first | rfl | (rw [hb]; rfl), o2 _ _⟩
end Go.Proofs.Ytmjmgdbhmbjmaaa

namespace Go.Proofs.Ytmjmgdbhmbjmaaa
open Go.RowKit
theorem wrap64 {x : Int} (h0 : -9223372036854775808 ≤ x) (h1 : x ≤ 9223372036854775807) : IntKind.i64.wrap x = x := by
 simp only [IntKind.wrap, IntKind.bits, IntKind.signed]
 go_num
theorem Cel.new1 (w : World) (o : Obj) (t : TypeId) (cs : Array Value) : Cel (w.heap.size + 1) t cs ((w.alloc o).alloc (.cells cs t)) := by
 have := Cel.new (w.alloc o) t cs
 simp only [World.size_alloc] at this
 exact this
theorem not_any (x : Bool) (w : World) : (Op.unary .not (.bool x)).run Try.prog w = .ok (.bool (!x)) w := rfl
end Go.Proofs.Ytmjmgdbhmbjmaaa

namespace Go.Proofs.Ytmjmgdbhmbjmaaa
open Go.RowKit
theorem take_at {P : Program} {md : Region.Mode} {ops : Array Oper} {Q : Exit → Act → World → Prop} {S : World → Prop} {i : Nat} {oi : Oper} (d : Nat) {v : Value} {fuel : Nat} {listed : Array Bool} {a : Act} {w : World} (hi : ops[i]? = some oi) (hd : oi.dst = some d)
  (hs : Region.noSelect ops = true) (hf : Region.free md ops listed i = true) (hr : (Region.ready md ops listed).contains i = true)
  (hQ : ∀ c a w, Q (.panic c) (a.put oi.dst v) w → Q (.panic c) a w) (hy : YieldsIf P ops S oi v a) (hS : S w)
  (h : wpAnyH P md ops Q S fuel (listed.setIfInBounds i true) (a.put (some d) v) w) : wpAnyH P md ops Q S (fuel + 1) listed a w :=
 wpAnyH_take hi hs hf hr hQ hy hS (by rw [hd]; exact h)
def eqB (f g : Nat → Int) : Bool := @decide (∀ j, j < 8 → f j = g j) (dec8 (fun j => f j = g j) (fun _ => inferInstance))
theorem eql_dot (a b c d : Int) (W : World) : (binOp .eql 89 (.agg #[.int .i64 a, .int .i64 b]) (.agg #[.int .i64 c, .int .i64 d])).run Try.prog W = .ok (.bool (decide (a = c ∧ b = d))) W := by
 go_simp
 by_cases h1 : a = c <;> by_cases h2 : b = d <;> simp [h1, h2]
theorem info2 : ∃ i, Try.prog.info? 2 = some i := by
 cases h : Try.prog.info? 2 with
 | some i => exact ⟨i, rfl⟩
 | none =>
  have : (Try.prog.info? 2).isSome = true := by kernel_rfl
  rw [h] at this
  cases this
theorem eql_vec (f g : Nat → Int) (W : World) : (binOp .eql 30 (.agg #[.int .i64 (f 0), .int .i64 (f 1), .int .i64 (f 2), .int .i64 (f 3), .int .i64 (f 4), .int .i64 (f 5), .int .i64 (f 6), .int .i64 (f 7)]) (.agg #[.int .i64 (g 0), .int .i64 (g 1), .int .i64 (g 2), .int .i64 (g 3), .int .i64 (g 4), .int .i64 (g 5), .int .i64 (g 6), .int .i64 (g 7)])).run Try.prog W = .ok (.bool (eqB f g)) W := by
 have hz : ∀ {n : Nat} (h : n < 8) (f : Nat → Int) (W : World), (part 2 #[.int .i64 (f 0), .int .i64 (f 1), .int .i64 (f 2), .int .i64 (f 3), .int .i64 (f 4), .int .i64 (f 5), .int .i64 (f 6), .int .i64 (f 7)] (n * 1)).run Try.prog W = .ok (.int .i64 (f n)) W := by
  intro n h f W
  obtain rfl | rfl | rfl | rfl | rfl | rfl | rfl | rfl : n = 0 ∨ n = 1 ∨ n = 2 ∨ n = 3 ∨ n = 4 ∨ n = 5 ∨ n = 6 ∨ n = 7 := by omega
  all_goals kernel_rfl
 obtain ⟨i, hi⟩ := info2
 have hb : binOp .eql 30 (.agg #[.int .i64 (f 0), .int .i64 (f 1), .int .i64 (f 2), .int .i64 (f 3), .int .i64 (f 4), .int .i64 (f 5), .int .i64 (f 6), .int .i64 (f 7)]) (.agg #[.int .i64 (g 0), .int .i64 (g 1), .int .i64 (g 2), .int .i64 (g 3), .int .i64 (g 4), .int .i64 (g 5), .int .i64 (g 6), .int .i64 (g 7)]) = (do pure (.bool (← Op.equal 30 (.agg #[.int .i64 (f 0), .int .i64 (f 1), .int .i64 (f 2), .int .i64 (f 3), .int .i64 (f 4), .int .i64 (f 5), .int .i64 (f 6), .int .i64 (f 7)]) (.agg #[.int .i64 (g 0), .int .i64 (g 1), .int .i64 (g 2), .int .i64 (g 3), .int .i64 (g 4), .int .i64 (g 5), .int .i64 (g 6), .int .i64 (g 7)])))) := rfl
 have h1 : Try.prog.cellsOf 2 = 1 := by kernel_rfl
 have he : ∀ x y W, (Op.equalIn 9999 2 (.int .i64 x) (.int .i64 y)).run Try.prog W = .ok (x == y) W := fun x y W => run_equalIn_int W 9998 2 .i64 .i64 x y (by kernel_rfl)
 have hl : ∀ is : List Nat, (∀ j ∈ is, j < 8) → (Op.eqItems 9999 2 1 #[.int .i64 (f 0), .int .i64 (f 1), .int .i64 (f 2), .int .i64 (f 3), .int .i64 (f 4), .int .i64 (f 5), .int .i64 (f 6), .int .i64 (f 7)] #[.int .i64 (g 0), .int .i64 (g 1), .int .i64 (g 2), .int .i64 (g 3), .int .i64 (g 4), .int .i64 (g 5), .int .i64 (g 6), .int .i64 (g 7)] is).run Try.prog W = .ok (is.all fun j => f j == g j) W := by
  intro is
  induction is with
  | nil => intro _; rfl
  | cons j is ih =>
   intro hj
   have hj0 : j < 8 := hj j (by simp)
   simp only [Op.eqItems, Sem.run_bind, hz hj0, Result.andThen_ok, he]
   by_cases e : f j = g j
   ·simp [e, ih (fun k hk => hj k (by simp [hk]))]
   ·simp [e]
 have hq : (Op.equal 30 (.agg #[.int .i64 (f 0), .int .i64 (f 1), .int .i64 (f 2), .int .i64 (f 3), .int .i64 (f 4), .int .i64 (f 5), .int .i64 (f 6), .int .i64 (f 7)]) (.agg #[.int .i64 (g 0), .int .i64 (g 1), .int .i64 (g 2), .int .i64 (g 3), .int .i64 (g 4), .int .i64 (g 5), .int .i64 (g 6), .int .i64 (g 7)])).run Try.prog W = .ok ((List.range 8).all fun j => f j == g j) W := by
  have := run_equalIn_array (P := Try.prog) (w := W) 9999 (t := 30) (e := 2) (n := 8) #[.int .i64 (f 0), .int .i64 (f 1), .int .i64 (f 2), .int .i64 (f 3), .int .i64 (f 4), .int .i64 (f 5), .int .i64 (f 6), .int .i64 (f 7)] #[.int .i64 (g 0), .int .i64 (g 1), .int .i64 (g 2), .int .i64 (g 3), .int .i64 (g 4), .int .i64 (g 5), .int .i64 (g 6), .int .i64 (g 7)] (by kernel_rfl) hi
  rw [h1, hl (List.range 8) (fun j hj => by simpa using hj)] at this
  exact this
 rw [hb, Sem.run_bind, hq, Result.andThen_ok]
 have hx : ((List.range 8).all fun j => f j == g j) = eqB f g := by
  rw [Bool.eq_iff_iff]
  simp [eqB]
 rw [hx]
 rfl
end Go.Proofs.Ytmjmgdbhmbjmaaa

namespace Go.Proofs.Ytmjmgdbhmbjmaaa
open Go.RowKit
theorem Cel.new2 (w : World) (o p : Obj) (t : TypeId) (cs : Array Value) : Cel (w.heap.size + 2) t cs (((w.alloc o).alloc p).alloc (.cells cs t)) := by
 have := Cel.new ((w.alloc o).alloc p) t cs
 simp only [World.size_alloc] at this
 exact this
end Go.Proofs.Ytmjmgdbhmbjmaaa
