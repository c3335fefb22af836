/- A ring: its cells; New, Nodes, Made; the slow road of sync.Once. -/
import Derived.Test.YtpiknkgnmjcjjaaLBase
import Derived.Test.YtpiknkgnmjcjjaaGro14
import Derived.Test.YtpiknkgnmjcjjaaRgP
namespace Go.Proofs.Ytpiknkgnmjcjjaa
set_option maxRecDepth 100000
open Go.RowKit

/-- A ring at block b: how many nodes, whether it is done, whether its lock is held, its points, how often they were made. -/
def Rc (b : Nat) (k : Int) (d s : Int) (ps : Value) (m : Int) (w : World) : Prop :=
  Cel b 62 #[.int .i64 k, .int .u32 d, .int .i32 s, .int .u32 0, ps, .int .i64 m] w
theorem Rc.c0 {b : Nat} {k : Int} {d s : Int} {ps : Value} {m : Int} {w : World} (h : Rc b k d s ps m w) : w.cell? ⟨b, 0, none⟩ = some (.int .i64 k) := by rw [Cel.cell h]; rfl
theorem Rc.c1 {b : Nat} {k : Int} {d s : Int} {ps : Value} {m : Int} {w : World} (h : Rc b k d s ps m w) : w.cell? ⟨b, 1, none⟩ = some (.int .u32 d) := by rw [Cel.cell h]; rfl
theorem Rc.c2 {b : Nat} {k : Int} {d s : Int} {ps : Value} {m : Int} {w : World} (h : Rc b k d s ps m w) : w.cell? ⟨b, 2, none⟩ = some (.int .i32 s) := by rw [Cel.cell h]; rfl
theorem Rc.c4 {b : Nat} {k : Int} {d s : Int} {ps : Value} {m : Int} {w : World} (h : Rc b k d s ps m w) : w.cell? ⟨b, 4, none⟩ = some (ps) := by rw [Cel.cell h]; rfl
theorem Rc.c5 {b : Nat} {k : Int} {d s : Int} {ps : Value} {m : Int} {w : World} (h : Rc b k d s ps m w) : w.cell? ⟨b, 5, none⟩ = some (.int .i64 m) := by rw [Cel.cell h]; rfl
theorem Rc.fr {b : Nat} {k : Int} {d s : Int} {ps : Value} {m : Int} {w : World} (h : Rc b k d s ps m w) (o : Nat) : w.frozen? ⟨b, o, none⟩ = false := Cel.free h o
theorem Rc.s1 {b : Nat} {k : Int} {d s : Int} {ps : Value} {m : Int} {w : World} (h : Rc b k d s ps m w) (u : Int) : Rc b k u s ps m (w.setCell ⟨b, 1, none⟩ (.int .u32 u)) := Cel.set h 1 _
theorem Rc.s2 {b : Nat} {k : Int} {d s : Int} {ps : Value} {m : Int} {w : World} (h : Rc b k d s ps m w) (u : Int) : Rc b k d u ps m (w.setCell ⟨b, 2, none⟩ (.int .i32 u)) := Cel.set h 2 _
theorem Rc.s4 {b : Nat} {k : Int} {d s : Int} {ps : Value} {m : Int} {w : World} (h : Rc b k d s ps m w) (u : Value) : Rc b k d s u m (w.setCell ⟨b, 4, none⟩ u) := Cel.set h 4 _
theorem Rc.s5 {b : Nat} {k : Int} {d s : Int} {ps : Value} {m : Int} {w : World} (h : Rc b k d s ps m w) (u : Int) : Rc b k d s ps u (w.setCell ⟨b, 5, none⟩ (.int .i64 u)) := Cel.set h 5 _
theorem new_at (n K : Int) (e1 : min (max n 0) 8 = K) (w : World) :
    Calls Try.prog 8 #[.int .i64 n] w fun e w' => e = .returned (.pointer (some ⟨w.heap.size, 0, none⟩)) ∧ Rc w.heap.size K 0 0 (.slice none 0 0) 0 w' ∧ Off (fun _ => False) w w' := by
  have E : Off (fun _ => False) w (w.alloc (.cells #[.int .i64 K, .int .u32 0, .int .i32 0, .int .u32 0, .slice none 0 0, .int .i64 0] 62)) := (Off.refl _ _).alloc _
  have N : Rc w.heap.size K 0 0 (.slice none 0 0) 0 (w.alloc (.cells #[.int .i64 K, .int .u32 0, .int .i32 0, .int .u32 0, .slice none 0 0, .int .i64 0] 62)) := Cel.new _ _ _
  have HE : Hid _ := E
  have HN : Hid _ := N
  clear E N
  rcases (show n < 0 ∨ (0 ≤ n ∧ n ≤ 8) ∨ 8 < n by omega) with h | ⟨h, h'⟩ | h
  · obtain rfl : K = 0 := by omega
    clear e1
    go_enter Try.func8, Try.ntmps8
    go_wp2
    go_ret
    exact ⟨rfl, HN.out, HE.out⟩
  · obtain rfl : n = K := by omega
    clear e1
    go_enter Try.func8, Try.ntmps8
    go_wp2
    all_goals
      go_ret
      exact ⟨rfl, HN.out, HE.out⟩
  · obtain rfl : K = 8 := by omega
    clear e1
    go_enter Try.func8, Try.ntmps8
    go_wp2
    all_goals
      go_ret
      exact ⟨rfl, HN.out, HE.out⟩
theorem nodes_any {b : Nat} {k : Int} {d s : Int} {ps : Value} {m : Int} {w : World} (h : Rc b k d s ps m w) : Calls Try.prog 10 #[.pointer (some ⟨b, 0, none⟩)] w fun e w' => e = .returned (.int .i64 k) ∧ w' = w := by
  have c0 := h.c0
  go_enter Try.func10, Try.ntmps10
  go_wp2
  go_ret
  exact ⟨rfl, rfl⟩
theorem nodes_nil (w : World) : Calls Try.prog 10 #[.pointer none] w fun e w' => e = .returned (.int .i64 0) ∧ w' = w := by
  go_enter Try.func10, Try.ntmps10
  go_wp2
  go_ret
  exact ⟨rfl, rfl⟩
theorem i64load (a : Addr) (x : Int) (w : World) (hc : w.cell? a = some (.int .i64 x)) :
    Calls Try.prog 28 #[.pointer (some a)] w fun e w' => e = .returned (.int .i64 x) ∧ w' = w := by
  have hl := run_call_load (P := Try.prog) Try.func40 (by kernel_rfl) (by kernel_rfl) (by kernel_rfl) .i64 (by kernel_rfl) hc
  go_enter Try.func28, Try.ntmps28
  go_wp2
  go_ret
  exact ⟨rfl, rfl⟩
theorem i64add (a : Addr) (x : Int) (w : World) (hc : w.cell? a = some (.int .i64 x)) (hz : w.frozen? a = false) (hx : x = 0) :
    Calls Try.prog 34 #[.pointer (some a), .int .i64 1] w fun e w' => e = .returned (.int .i64 1) ∧ w' = w.setCell a (.int .i64 1) := by
  subst hx
  have hadd := run_call_add (P := Try.prog) Try.func49 (by kernel_rfl) (by kernel_rfl) (by kernel_rfl) .i64 (by kernel_rfl) (y := 1) (s := 1) hc hz (by simp [go_sem]; rfl)
  go_enter Try.func34, Try.ntmps34
  go_wp2
  go_ret
  exact ⟨rfl, rfl⟩
theorem made_any {b : Nat} {k : Int} {d s : Int} {ps : Value} {m : Int} {w : World} (h : Rc b k d s ps m w) : Calls Try.prog 18 #[.pointer (some ⟨b, 0, none⟩)] w fun e w' => e = .returned (.int .i64 m) ∧ w' = w := by
  have HC : Hid _ := i64load ⟨b, 5, none⟩ m w h.c5
  go_enter Try.func18, Try.ntmps18
  go_wp2_with fail
  refine Calls.mono HC.out ?_
  rintro e w1 ⟨rfl, hw⟩
  rw [hw]
  clear hw w1
  go_wp2_with fail
  go_ret
  exact ⟨rfl, rfl⟩
theorem made_nil (w : World) : Calls Try.prog 18 #[.pointer none] w fun e w' => e = .returned (.int .i64 0) ∧ w' = w := by
  go_enter Try.func18, Try.ntmps18
  go_wp2
  go_ret
  exact ⟨rfl, rfl⟩
theorem slow_any (b : Nat) (w : World) (R : World → Prop) (k : Int) (nums : Value) (m : Int) (ht : Rc b k 0 0 nums m w)
    (hf : ∀ w1, w1 = w.setCell ⟨b, 2, none⟩ (.int .i32 1) → Calls Try.prog 23 #[.pointer (some ⟨b, 0, none⟩)] w1 fun e w2 => e = .returned (.tuple #[]) ∧ R w2 ∧ ∃ nums', Rc b k 0 1 nums' 1 w2) :
    Calls Try.prog 30 #[.pointer (some ⟨b, 1, none⟩), .func (.func 23) #[.pointer (some ⟨b, 0, none⟩)] #[]] w fun e w' => e = .returned (.tuple #[]) ∧
      ∃ w2, R w2 ∧ (∃ nums', Rc b k 0 1 nums' 1 w2) ∧ w' = (w2.drew.setCell ⟨b, 1, none⟩ (.int .u32 1)).setCell ⟨b, 2, none⟩ (.int .i32 0) := by
  have t1 := ht.s2 1
  have HF : Hid (Calls Try.prog 23 #[.pointer (some ⟨b, 0, none⟩)] (w.setCell ⟨b, 2, none⟩ (.int .i32 1)) fun e w2 => e = .returned (.tuple #[]) ∧ R w2 ∧ ∃ nums', Rc b k 0 1 nums' 1 w2) := hf _ rfl
  clear hf
  have hl := run_call_load (P := Try.prog) Try.func41 (by kernel_rfl) (by kernel_rfl) (by kernel_rfl) .u32 (by kernel_rfl) t1.c1
  have c3 := ht.c2
  have f3 := ht.fr 2
  have hnot : ∀ (x : Bool) (w : World), (Op.unary .not (.bool x)).run Try.prog w = .ok (.bool (!x)) w := fun _ _ => rfl
  go_enter_defers Try.func30, Try.ntmps30
  go_wp2_with fail
  refine (lock_free ⟨b, 2, none⟩ _ c3 f3).mono ?_
  rintro e w' ⟨rfl, rfl⟩
  go_wp2_with (go_at_call 29; go_in)
  refine HF.out.mono ?_
  rintro e w2 ⟨rfl, hR, nums', t2⟩
  go_wp2_with fail
  refine leaves_cons (f := 44) (args := #[.pointer (some ⟨b, 1, none⟩), .bool true]) (by simp) (by simp [go_sem]) ?_
  refine (store_deferred ⟨b, 1, none⟩ (.int .u32 0) .returning _ t2.c1 (t2.fr 1)).mono ?_
  rintro e u' w'' ⟨rfl, rfl, rfl⟩
  have t3 : Rc b k 1 1 nums' 1 (w2.drew.setCell ⟨b, 1, none⟩ (.int .u32 1)) := Rc.s1 (Cel.drew t2) 1
  refine leaves_cons (f := 43) (args := #[.pointer (some ⟨b, 2, none⟩)]) (by simp [settle]) (by simp [go_sem]) ?_
  refine (unlock_deferred ⟨b, 2, none⟩ _ _ t3.c2 (t3.fr 2)).mono ?_
  rintro e u' w'' ⟨rfl, rfl, rfl⟩
  simp [Leaves, settle, results, Try.results30]
  exact ⟨w2, hR, ⟨nums', t2⟩, rfl⟩

theorem do_first (b : Nat) (w : World) (R : World → Prop) (k : Int) (nums : Value) (m : Int) (ht : Rc b k 0 0 nums m w)
    (hf : ∀ w1, w1 = w.setCell ⟨b, 2, none⟩ (.int .i32 1) → Calls Try.prog 23 #[.pointer (some ⟨b, 0, none⟩)] w1 fun e w2 => e = .returned (.tuple #[]) ∧ R w2 ∧ ∃ nums', Rc b k 0 1 nums' 1 w2) :
    Calls Try.prog 22 #[.pointer (some ⟨b, 1, none⟩), .func (.func 23) #[.pointer (some ⟨b, 0, none⟩)] #[]] w fun e w' => e = .returned (.tuple #[]) ∧
      ∃ w2, R w2 ∧ (∃ nums', Rc b k 0 1 nums' 1 w2) ∧ w' = (w2.drew.setCell ⟨b, 1, none⟩ (.int .u32 1)).setCell ⟨b, 2, none⟩ (.int .i32 0) := by
  have HF : Hid _ := hf
  clear hf
  have hl := run_call_load (P := Try.prog) Try.func41 (by kernel_rfl) (by kernel_rfl) (by kernel_rfl) .u32 (by kernel_rfl) ht.c1
  have hnot : ∀ (x : Bool) (w : World), (Op.unary .not (.bool x)).run Try.prog w = .ok (.bool (!x)) w := fun _ _ => rfl
  go_enter Try.func22, Try.ntmps22
  go_wp2_with (go_at_call 29; go_in)
  refine (slow_any b w R k nums m ht HF.out).mono ?_
  rintro e w' ⟨rfl, hw⟩
  go_wp2_with fail
  go_end0
  exact ⟨rfl, hw⟩

end Go.Proofs.Ytpiknkgnmjcjjaa
