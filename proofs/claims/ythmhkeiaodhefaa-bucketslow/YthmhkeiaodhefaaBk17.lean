/- The contracts of package bucket's calls. -/
import Derived.Test.YthmhkeiaodhefaaTl17
namespace Go.Proofs.Ythmhkeiaodhefaa
set_option maxRecDepth 100000
open Go.RowKit

theorem Off.drewN {D : Nat → Prop} {a w : World} (h : Off D a w) (n : Nat) : Off D a (w.drewN n) := ⟨h.os, h.tape, h.output, h.size, h.block⟩
theorem Tal.drewN {b : Nat} {n m : Int} {w : World} (h : Tal b n m w) (k : Nat) : Tal b n m (w.drewN k) := ⟨⟨h.cel.is⟩, h.low, h.le, h.top⟩

/-- A bucket at block b: what a Tick brings, how many there is room for, how many there are, how many were taken; X: what is kept of the world whatever is done with it. -/
structure Bkt (X : World → Prop) (b : Nat) (r m n k : Int) (w : World) : Prop where
  is : ∃ c d : Nat, Cel b 38 #[.int .i64 r, .pointer (some ⟨c, 0, none⟩), .pointer (some ⟨d, 0, none⟩)] w ∧ Tal c n m w ∧ Tal d k 9223372036854775807 w ∧ b ≠ c ∧ b ≠ d ∧ c ≠ d ∧ (∀ u v, X u → Off (fun i => i = c ∨ i = d) u v → X v)
  r0 : 0 ≤ r
  r1 : r ≤ 1000000
  m1 : m ≤ 1000000
  x : X w
theorem Bkt.low {X : World → Prop} {b : Nat} {r m n k : Int} {w : World} (h : Bkt X b r m n k w) : 0 ≤ n ∧ n ≤ m ∧ 0 ≤ k := by
  obtain ⟨⟨c, d, -, hc, hd, -⟩, -⟩ := h
  exact ⟨hc.low, hc.le, hd.low⟩
theorem Bkt.keep {X : World → Prop} {b : Nat} {r m n k : Int} {w w' : World} (h : Bkt X b r m n k w) (o : Off (fun _ => False) w w') : Bkt X b r m n k w' := by
  obtain ⟨⟨c, d, hb, hc, hd, bc, bd, cd, hx⟩, r0, r1, m1, h0⟩ := h
  exact ⟨⟨c, d, hb.off o (fun h => h), hc.off o (fun h => h), hd.off o (fun h => h), bc, bd, cd, hx⟩, r0, r1, m1, hx _ _ h0 (o.mono (fun _ _ h => h.elim))⟩
/-- Of what there was in W none has turned. -/
def Sin (W : World) (w : World) : Prop := Off (fun _ => False) W w
theorem sin_keep {W : World} {c d : Nat} (hc : W.heap.size ≤ c) (hd : W.heap.size ≤ d) : ∀ u v, Sin W u → Off (fun i => i = c ∨ i = d) u v → Sin W v :=
  fun _ _ h o => Off.trans h o (fun i hi e => absurd hi (by rcases e with rfl | rfl <;> omega))

def cl (n : Int) : Int := min (max n 0) 1000000
theorem within_any (x : Int) (w : World) : Calls Try.prog 17 #[.int .i64 x] w fun e w' => e = .returned (.int .i64 (cl x)) ∧ w' = w := by
  have h1 := max_int x 0
  have h2 := min_int (max x 0) 1000000
  rw [show min (max x 0) 1000000 = cl x from rfl] at h2
  generalize cl x = y at *
  go_enter Try.func17, Try.ntmps17
  go_wp2_with fail
  go_ret
  exact ⟨rfl, rfl⟩

set_option maxHeartbeats 1000000 in
theorem bnew_any (x y : Int) (w : World) :
    Calls Try.prog 8 #[.int .i64 x, .int .i64 y] w fun e w' => ∃ b : Nat, e = .returned (.pointer (some ⟨b, 0, none⟩)) ∧ Bkt (Sin w) b (cl x) (cl y) (cl y) 0 w' := by
  have H1 : Hid _ := within_any x
  have H2 : Hid _ := within_any y
  have x0 : 0 ≤ cl x ∧ cl x ≤ 1000000 := by unfold cl; omega
  have y0 : 0 ≤ cl y ∧ cl y ≤ 1000000 := by unfold cl; omega
  generalize cl x = r at *
  generalize cl y = m at *
  obtain ⟨x0, x1⟩ := x0
  obtain ⟨y0, y1⟩ := y0
  have HN : Hid _ := tnew_any m (by omega) w
  rw [show max m 0 = m by omega] at HN
  go_enter Try.func8, Try.ntmps8
  go_wp2_with fail
  refine Calls.mono (H2.out _) ?_
  rintro e w1 ⟨rfl, hw⟩
  rw [hw]
  clear hw w1
  go_wp2_with fail
  refine Calls.mono HN.out ?_
  rintro e w1 ⟨rfl, t1, o1⟩
  generalize hp : w.heap.size = c at t1 ⊢
  have HPW : Hid (w.heap.size = c) := hp
  have HM : Hid _ := tmost_any t1
  have HR : Hid (Calls Try.prog 18 #[.pointer (some ⟨c, 0, none⟩), .int .i64 m] w1 fun e w' => ∃ v : Bool, e = .returned (.bool v) ∧ Tal c m m w' ∧ Off (fun i => i = c) w1 w') := by
    by_cases h : 0 < m
    · exact (raise_yes t1 m h (Int.le_refl _)).mono fun e w' h => ⟨true, h⟩
    · obtain rfl : m = 0 := by omega
      exact (raise_no t1 0 (Int.le_refl _)).mono fun e w' h => ⟨false, h.1, by rw [h.2]; exact t1, by rw [h.2]; exact Off.refl _ _⟩
  have HO : Hid _ := o1
  clear t1 o1 HN hp
  go_wp2_with fail
  refine Calls.mono HM.out ?_
  rintro e w2 ⟨rfl, hw⟩
  rw [hw]
  clear hw w2
  go_wp2_with fail
  refine Calls.mono HR.out ?_
  rintro e w2 ⟨v, rfl, t2, o2⟩
  have HT2 : Hid _ := t2
  have HO2 : Hid (Off (fun _ => False) w w2) := HO.out.trans o2 (fun i hi e => absurd hi (by have e : i = c := e; have := HPW.out; omega))
  clear t2 o2 HR HM HO
  go_wp2_with fail
  refine Calls.mono (H1.out _) ?_
  rintro e w3 ⟨rfl, hw⟩
  rw [hw]
  clear hw w3
  have HN : Hid _ := tnew_any 9223372036854775807 (by omega) w2
  rw [show max (9223372036854775807 : Int) 0 = 9223372036854775807 by omega] at HN
  go_wp2_with fail
  refine Calls.mono HN.out ?_
  rintro e w3 ⟨rfl, t3, o3⟩
  have hlt := HT2.out.lt
  have hwc := HPW.out
  generalize w2.heap.size = d at t3 hlt ⊢
  have HD : Hid (c < d) := hlt
  have HT3 : Hid _ := t3
  have HT4 : Hid (Tal c m m w3) := HT2.out.off o3 (fun h => h)
  have HO3 : Hid (Off (fun _ => False) w w3) := HO2.out.trans o3 (fun _ _ h => h)
  clear t3 o3 HT2 HO2 hlt HN
  go_wp2_with fail
  go_ret
  have l3 := HT3.out.lt
  have oo := (Off.refl (fun _ => False) w3).alloc (.cells #[.int .i64 r, .pointer (some ⟨c, 0, none⟩), .pointer (some ⟨d, 0, none⟩)] 38)
  have hd := HD.out
  exact ⟨_, rfl, ⟨c, d, Cel.new _ _ _, HT4.out.off oo (fun h => h), HT3.out.off oo (fun h => h), by omega, by omega, by omega, sin_keep (by omega) (by omega)⟩, x0, x1, y1, HO3.out.trans oo (fun _ _ h => h)⟩
end Go.Proofs.Ythmhkeiaodhefaa
