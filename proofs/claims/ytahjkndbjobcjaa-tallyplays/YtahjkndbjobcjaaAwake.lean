/- What 'awake' answers, and what the calls on no counter answer. -/
import Derived.Test.YtahjkndbjobcjaaTal
namespace Go.Proofs.Ytahjkndbjobcjaa
open Go.RowKit

/-- The world has new blocks alone, and of what was there nothing has turned. -/
def Ext (W w : World) : Prop := Grown W w ∧ Below W.heap.size W w
theorem Ext.refl (W : World) : Ext W W := ⟨Grown.refl _, Below.refl _ _⟩
theorem Ext.made {W w : World} (h : Ext W w) (m : Int) : Ext W (made m w) := ⟨made_grown h.1 m, made_below h.2 h.1.2.2 m⟩
theorem Ext.put {W w : World} (h : Ext W w) {b : Nat} (hb : W.heap.size ≤ b) (v : Int) : Ext W (put b v w) := ⟨put_grown h.1 hb v, put_below h.2 hb v⟩
theorem Ext.size {W w : World} (h : Ext W w) : W.heap.size ≤ w.heap.size := h.1.2.2
theorem Ext.trans {W w v : World} (h : Ext W w) (k : Ext w v) : Ext W v := by
  refine ⟨⟨World.keptBut_trans h.1.1 k.1.1, fun a => (k.1.2.1 a).trans (h.1.2.1 a), Nat.le_trans h.1.2.2 k.1.2.2⟩, h.2.trans (k.2.mono h.size)⟩
theorem Ext.tal {W w : World} (h : Ext W w) {b : Nat} {n m : Int} (t : Tal b n m W) : Tal b n m w := by
  obtain ⟨hn, hm, hf, h2, h3, h4, h5⟩ := t
  exact ⟨(h.2.cell (p := ⟨b, 0, none⟩) h5).trans hn, (h.2.cell (p := ⟨b, 1, none⟩) h5).trans hm, (h.1.2.1 _).trans hf, h2, h3, h4, Nat.lt_of_lt_of_le h5 h.size⟩

set_option maxHeartbeats 400000 in
theorem awake_any (w : World) :
    Calls Try.prog 16 #[] w fun e w' => e = .returned (.bool true) ∧ Ext w w' := by
  have t0 : Tal w.heap.size 0 10 (made 10 w) := made_tal 10 w (by omega) (by omega)
  have t1 := t0.put 7 (by omega) (by omega)
  have t2 := t1.put 9 (by omega) (by omega)
  have x0 : Ext w (made 10 w) := (Ext.refl w).made 10
  have x1 := x0.put (Nat.le_refl _) 7
  have x2 := x1.put (Nat.le_refl _) 9
  have x3 := x2.put (Nat.le_refl _) 0
  have X3 : Hid (Ext w (put w.heap.size 0 (put w.heap.size 9 (put w.heap.size 7 (made 10 w))))) := x3
  clear x0 x1 x2 x3
  go_enter Try.func16, Try.ntmps16
  go_wp2_with fail
  refine (new_any 10 w).mono ?_
  rintro e w1 ⟨rfl, rfl⟩
  go_wp2_with fail
  refine (add_yes w.heap.size 0 10 7 _ t0 (by omega) (by omega)).mono ?_
  rintro e w1 ⟨rfl, rfl⟩
  go_wp2_with fail
  refine (add_no w.heap.size 7 10 4 _ t1 (by omega)).mono ?_
  rintro e w1 ⟨rfl, rfl⟩
  go_wp2_with fail
  refine (take_no w.heap.size 7 10 8 _ t1 (by omega)).mono ?_
  rintro e w1 ⟨rfl, rfl⟩
  go_wp2_with fail
  refine (raise_yes w.heap.size 7 10 9 _ t1 (by omega) (by omega)).mono ?_
  rintro e w1 ⟨rfl, rfl⟩
  go_wp2_with fail
  refine (reset_any w.heap.size 9 10 _ t2).mono ?_
  rintro e w1 ⟨rfl, rfl⟩
  go_wp2_with fail
  go_ret
  exact ⟨rfl, X3⟩

theorem add_nil (x : Int) (w : World) :
    Calls Try.prog 10 #[.pointer none, .int .i64 x] w fun e w' => e = .returned (.tuple #[.int .i64 0, .bool false]) ∧ w' = w := by
  go_enter Try.func10, Try.ntmps10
  go_wp2
  go_ret2
  exact ⟨rfl, rfl⟩
theorem take_nil (x : Int) (w : World) :
    Calls Try.prog 11 #[.pointer none, .int .i64 x] w fun e w' => e = .returned (.bool false) ∧ w' = w := by
  go_enter Try.func11, Try.ntmps11
  go_wp2
  go_ret
  exact ⟨rfl, rfl⟩
theorem raise_nil (x : Int) (w : World) :
    Calls Try.prog 12 #[.pointer none, .int .i64 x] w fun e w' => e = .returned (.bool false) ∧ w' = w := by
  go_enter Try.func12, Try.ntmps12
  go_wp2
  go_ret
  exact ⟨rfl, rfl⟩
theorem reset_nil (w : World) :
    Calls Try.prog 13 #[.pointer none] w fun e w' => e = .returned (.int .i64 0) ∧ w' = w := by
  go_enter Try.func13, Try.ntmps13
  go_wp2
  go_ret
  exact ⟨rfl, rfl⟩
theorem now_nil (w : World) :
    Calls Try.prog 14 #[.pointer none] w fun e w' => e = .returned (.int .i64 0) ∧ w' = w := by
  go_enter Try.func14, Try.ntmps14
  go_wp2
  go_ret
  exact ⟨rfl, rfl⟩
theorem most_nil (w : World) :
    Calls Try.prog 15 #[.pointer none] w fun e w' => e = .returned (.int .i64 0) ∧ w' = w := by
  go_enter Try.func15, Try.ntmps15
  go_wp2
  go_ret
  exact ⟨rfl, rfl⟩
end Go.Proofs.Ytahjkndbjobcjaa
