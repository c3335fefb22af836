/- The contracts of package tally's calls. -/
import Derived.Test.YtahjkndbjobcjaaRows
import Derived.WalkKit
import Derived.ProofKit
import Derived.Laws.LoneSync
namespace Go.Proofs.Ytahjkndbjobcjaa
open Go.RowKit

theorem run_call_swap {P : Program} {f : FuncId} {fn : Func} (hf : P.funcs[f]? = some fn) (hname : (fn.name == "runtime.NumGoroutine") = false) (hb : fn.body.isNone = true) (hn : Extern.findNext fn = none) (k : IntKind)
    (he : Extern.find fn = some (Extern.Atomic.swapT (.int k))) {a : Addr} {x y : Int} {w : World} (hc : w.cell? a = some (.int k x)) (hz : w.frozen? a = false) :
    (callFunc f #[.pointer (some a), .int k y]).run P w = .ok (.value (.int k x)) (w.setCell a (.int k y)) := by
  rw [run_callFunc_extern hf hname hb hn he]
  change (Sem.run P (do
    let a' ← asAddr (.pointer (some a))
    let old ← Extern.Atomic.read (.int k) a'
    store a' (.int k y) .atomic
    pure old) w).andThen _ = _
  simp [Extern.Atomic.read, asAddr, hc, hz, run_store P w a (.int k y) .atomic rfl, Result.andThen]

/-- A counter at block b: what it is, its end. -/
structure Tal (b : Nat) (n m : Int) (w : World) : Prop where
  now : w.cell? ⟨b, 0, none⟩ = some (.int .i64 n)
  most : w.cell? ⟨b, 1, none⟩ = some (.int .i64 m)
  free : w.frozen? ⟨b, 0, none⟩ = false
  low : 0 ≤ n
  le : n ≤ m
  top : m ≤ 9223372036854775807
  old : b < w.heap.size


/-- The counter at block b is set to v. -/
def put (b : Nat) (v : Int) (w : World) : World := w.setCell ⟨b, 0, none⟩ (.int .i64 v)

theorem Tal.put {b : Nat} {n m : Int} {w : World} (h : Tal b n m w) (v : Int) (h0 : 0 ≤ v) (h1 : v ≤ m) : Tal b v m (put b v w) := by
  obtain ⟨hn, hm, hf, h2, h3, h4, h5⟩ := h
  refine ⟨?_, ?_, ?_, h0, h1, h4, ?_⟩
  · exact World.cell?_setCell_same _ _ _ hn
  · rw [Ytahjkndbjobcjaa.put, World.cell?_setCell_other _ _ _ _ (by simp)]; exact hm
  · rw [Ytahjkndbjobcjaa.put, World.frozen?_setCell]; exact hf
  · simpa [Ytahjkndbjobcjaa.put, World.setCell] using h5

theorem Tal.other {b c : Nat} {n m : Int} {w : World} (h : Tal c n m w) (v : Int) (hb : b ≠ c) : Tal c n m (Ytahjkndbjobcjaa.put b v w) := by
  obtain ⟨hn, hm, hf, h2, h3, h4, h5⟩ := h
  have hne : ∀ o : Nat, (⟨b, 0, none⟩ : Addr) ≠ ⟨c, o, none⟩ := fun o e => hb (congrArg Addr.block e)
  refine ⟨?_, ?_, ?_, h2, h3, h4, ?_⟩
  · rw [Ytahjkndbjobcjaa.put, World.cell?_setCell_other _ _ _ _ (hne _)]; exact hn
  · rw [Ytahjkndbjobcjaa.put, World.cell?_setCell_other _ _ _ _ (hne _)]; exact hm
  · rw [Ytahjkndbjobcjaa.put, World.frozen?_setCell]; exact hf
  · simpa [Ytahjkndbjobcjaa.put, World.setCell] using h5

theorem put_grown {W w : World} (h : Grown W w) {b : Nat} (hb : W.heap.size ≤ b) (v : Int) : Grown W (put b v w) := h.setCell hb _
theorem put_below {W w : World} {B : Nat} (h : Below B W w) {b : Nat} (hb : B ≤ b) (v : Int) : Below B W (put b v w) := h.setCell hb _
theorem put_size (b : Nat) (v : Int) (w : World) : (put b v w).heap.size = w.heap.size := by simp [put, World.setCell]

/-- A new counter. -/
def made (m : Int) (w : World) : World := w.alloc (.cells #[.int .i64 0, .int .i64 m] 44)
theorem made_size (m : Int) (w : World) : (made m w).heap.size = w.heap.size + 1 := by simp [made]
theorem made_tal (m : Int) (w : World) (h0 : 0 ≤ m) (h1 : m ≤ 9223372036854775807) : Tal w.heap.size 0 m (made m w) := by
  refine ⟨?_, ?_, ?_, by omega, h0, h1, ?_⟩
  · simp [made]
  · simp [made]
  · rw [made, frozen?_alloc_cells]; simp [World.frozen?]
  · rw [made_size]; omega
theorem made_other {c : Nat} {n k m : Int} {w : World} (h : Tal c n k w) : Tal c n k (made m w) := by
  obtain ⟨hn, hm, hf, h2, h3, h4, h5⟩ := h
  refine ⟨?_, ?_, ?_, h2, h3, h4, ?_⟩
  · rw [made, World.cell?_alloc_past _ _ _ h5]; exact hn
  · rw [made, World.cell?_alloc_past _ _ _ h5]; exact hm
  · rw [made, frozen?_alloc_cells]; exact hf
  · rw [made_size]; omega
theorem made_grown {W w : World} (h : Grown W w) (m : Int) : Grown W (made m w) := h.alloc _ _
theorem made_below {W w : World} {B : Nat} (h : Below B W w) (hB : B ≤ w.heap.size) (m : Int) : Below B W (made m w) := h.alloc hB _

theorem new_any (x : Int) (w : World) :
    Calls Try.prog 9 #[.int .i64 x] w fun e w' => e = .returned (.pointer (some ⟨w.heap.size, 0, none⟩)) ∧ w' = made (max 0 x) w := by
  by_cases h : x < 0
  · have e : max 0 x = 0 := by omega
    rw [e]
    go_enter Try.func9, Try.ntmps9
    go_wp2
    go_ret
    exact ⟨rfl, rfl⟩
  · have e : max 0 x = x := by omega
    rw [e]
    clear e
    go_enter Try.func9, Try.ntmps9
    go_wp2
    go_ret
    exact ⟨rfl, rfl⟩

theorem load_any (b : Nat) (n m : Int) (w : World) (h : Tal b n m w) :
    (callFunc 20 #[.pointer (some ⟨b, 0, none⟩)]).run Try.prog w = .ok (.value (.int .i64 n)) w :=
  run_call_load (P := Try.prog) Try.func20 (by kernel_rfl) (by kernel_rfl) (by kernel_rfl) .i64 (by kernel_rfl) h.now
theorem cas_any (b : Nat) (n m y : Int) (w : World) (h : Tal b n m w) :
    (callFunc 21 #[.pointer (some ⟨b, 0, none⟩), .int .i64 n, .int .i64 y]).run Try.prog w = .ok (.value (.bool true)) (w.setCell ⟨b, 0, none⟩ (.int .i64 y)) :=
  run_call_cas_hit (P := Try.prog) Try.func21 (by kernel_rfl) (by kernel_rfl) (by kernel_rfl) .i64 (by kernel_rfl) h.now h.free
theorem swap_any (b : Nat) (n m y : Int) (w : World) (h : Tal b n m w) :
    (callFunc 22 #[.pointer (some ⟨b, 0, none⟩), .int .i64 y]).run Try.prog w = .ok (.value (.int .i64 n)) (w.setCell ⟨b, 0, none⟩ (.int .i64 y)) :=
  run_call_swap (P := Try.prog) Try.func22 (by kernel_rfl) (by kernel_rfl) (by kernel_rfl) .i64 (by kernel_rfl) h.now h.free

set_option maxHeartbeats 400000 in
theorem add_yes (b : Nat) (n m x : Int) (w : World) (h : Tal b n m w) (h0 : 0 ≤ x) (h1 : x ≤ m - n) :
    Calls Try.prog 10 #[.pointer (some ⟨b, 0, none⟩), .int .i64 x] w fun e w' => e = .returned (.tuple #[.int .i64 (n + x), .bool true]) ∧ w' = put b (n + x) w := by
  have hl := load_any b n m w h
  have hc := cas_any b n m (n + x) w h
  obtain ⟨hn, hm, hf, h2, h3, h4, h5⟩ := h
  go_enter Try.func10, Try.ntmps10
  go_wp2
  go_loop [6] (fun _ => True) (fun _ => 0)
  case atStart => trivial
  case round =>
    go_wp2
    go_ret2
    exact ⟨rfl, rfl⟩

set_option maxHeartbeats 400000 in
theorem add_no (b : Nat) (n m x : Int) (w : World) (h : Tal b n m w) (h1 : x < 0 ∨ m - n < x) :
    Calls Try.prog 10 #[.pointer (some ⟨b, 0, none⟩), .int .i64 x] w fun e w' => e = .returned (.tuple #[.int .i64 n, .bool false]) ∧ w' = w := by
  have hl := load_any b n m w h
  obtain ⟨hn, hm, hf, h2, h3, h4, h5⟩ := h
  by_cases hx : x < 0
  · clear h1
    go_enter Try.func10, Try.ntmps10
    go_wp2
    go_loop [6] (fun _ => True) (fun _ => 0)
    case atStart => trivial
    case round =>
      go_wp2
      go_ret2
      exact ⟨rfl, rfl⟩
  · have hy : m - n < x := by omega
    clear h1
    go_enter Try.func10, Try.ntmps10
    go_wp2
    go_loop [6] (fun _ => True) (fun _ => 0)
    case atStart => trivial
    case round =>
      go_wp2
      go_ret2
      exact ⟨rfl, rfl⟩

set_option maxHeartbeats 400000 in
theorem take_yes (b : Nat) (n m x : Int) (w : World) (h : Tal b n m w) (h0 : 0 ≤ x) (h1 : x ≤ n) :
    Calls Try.prog 11 #[.pointer (some ⟨b, 0, none⟩), .int .i64 x] w fun e w' => e = .returned (.bool true) ∧ w' = put b (n - x) w := by
  have hl := load_any b n m w h
  have hc := cas_any b n m (n - x) w h
  obtain ⟨hn, hm, hf, h2, h3, h4, h5⟩ := h
  go_enter Try.func11, Try.ntmps11
  go_wp2
  go_loop [5] (fun _ => True) (fun _ => 0)
  case atStart => trivial
  case round =>
    go_wp2
    go_ret
    exact ⟨rfl, rfl⟩

set_option maxHeartbeats 400000 in
theorem take_no (b : Nat) (n m x : Int) (w : World) (h : Tal b n m w) (h1 : x < 0 ∨ n < x) :
    Calls Try.prog 11 #[.pointer (some ⟨b, 0, none⟩), .int .i64 x] w fun e w' => e = .returned (.bool false) ∧ w' = w := by
  have hl := load_any b n m w h
  obtain ⟨hn, hm, hf, h2, h3, h4, h5⟩ := h
  by_cases hx : x < 0
  · clear h1
    go_enter Try.func11, Try.ntmps11
    go_wp2
    go_loop [5] (fun _ => True) (fun _ => 0)
    case atStart => trivial
    case round =>
      go_wp2
      go_ret
      exact ⟨rfl, rfl⟩
  · have hy : n < x := by omega
    clear h1
    go_enter Try.func11, Try.ntmps11
    go_wp2
    go_loop [5] (fun _ => True) (fun _ => 0)
    case atStart => trivial
    case round =>
      go_wp2
      go_ret
      exact ⟨rfl, rfl⟩

set_option maxHeartbeats 400000 in
theorem raise_yes (b : Nat) (n m x : Int) (w : World) (h : Tal b n m w) (h0 : n < x) (h1 : x ≤ m) :
    Calls Try.prog 12 #[.pointer (some ⟨b, 0, none⟩), .int .i64 x] w fun e w' => e = .returned (.bool true) ∧ w' = put b x w := by
  have hl := load_any b n m w h
  have hc := cas_any b n m x w h
  obtain ⟨hn, hm, hf, h2, h3, h4, h5⟩ := h
  go_enter Try.func12, Try.ntmps12
  go_wp2
  go_loop [5] (fun _ => True) (fun _ => 0)
  case atStart => trivial
  case round =>
    go_wp2
    go_ret
    exact ⟨rfl, rfl⟩

set_option maxHeartbeats 400000 in
theorem raise_no (b : Nat) (n m x : Int) (w : World) (h : Tal b n m w) (h1 : x ≤ n ∨ m < x) :
    Calls Try.prog 12 #[.pointer (some ⟨b, 0, none⟩), .int .i64 x] w fun e w' => e = .returned (.bool false) ∧ w' = w := by
  have hl := load_any b n m w h
  obtain ⟨hn, hm, hf, h2, h3, h4, h5⟩ := h
  by_cases hx : x ≤ n
  · clear h1
    go_enter Try.func12, Try.ntmps12
    go_wp2
    go_loop [5] (fun _ => True) (fun _ => 0)
    case atStart => trivial
    case round =>
      go_wp2
      go_ret
      exact ⟨rfl, rfl⟩
  · have hy : m < x := by omega
    clear h1
    go_enter Try.func12, Try.ntmps12
    go_wp2
    go_loop [5] (fun _ => True) (fun _ => 0)
    case atStart => trivial
    case round =>
      go_wp2
      go_ret
      exact ⟨rfl, rfl⟩

theorem reset_any (b : Nat) (n m : Int) (w : World) (h : Tal b n m w) :
    Calls Try.prog 13 #[.pointer (some ⟨b, 0, none⟩)] w fun e w' => e = .returned (.int .i64 n) ∧ w' = put b 0 w := by
  have hc := swap_any b n m 0 w h
  obtain ⟨hn, hm, hf, h2, h3, h4, h5⟩ := h
  go_enter Try.func13, Try.ntmps13
  go_wp2
  go_ret
  exact ⟨rfl, rfl⟩

theorem now_any (b : Nat) (n m : Int) (w : World) (h : Tal b n m w) :
    Calls Try.prog 14 #[.pointer (some ⟨b, 0, none⟩)] w fun e w' => e = .returned (.int .i64 n) ∧ w' = w := by
  have hl := load_any b n m w h
  obtain ⟨hn, hm, hf, h2, h3, h4, h5⟩ := h
  go_enter Try.func14, Try.ntmps14
  go_wp2
  go_ret
  exact ⟨rfl, rfl⟩

theorem most_any (b : Nat) (n m : Int) (w : World) (h : Tal b n m w) :
    Calls Try.prog 15 #[.pointer (some ⟨b, 0, none⟩)] w fun e w' => e = .returned (.int .i64 m) ∧ w' = w := by
  obtain ⟨hn, hm, hf, h2, h3, h4, h5⟩ := h
  go_enter Try.func15, Try.ntmps15
  go_wp2
  go_ret
  exact ⟨rfl, rfl⟩

end Go.Proofs.Ytahjkndbjobcjaa
