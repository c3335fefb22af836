/- Items of several texts. -/
import Derived.Test.YtmeclfgehpbjlaaYQf18
namespace Go.Proofs.Ytmeclfgehpbjlaa
set_option maxRecDepth 100000
open Go.RowKit
theorem max_int (a b : Int) : ∀ ts t W, (Builtin.max_ ts t #[.int .i64 a, .int .i64 b]).run Try.prog W = .ok (.int .i64 (max a b)) W := by
 intro ts t W
 go_simp
 split <;> omega
theorem min_int (a b : Int) : ∀ ts t W, (Builtin.min_ ts t #[.int .i64 a, .int .i64 b]).run Try.prog W = .ok (.int .i64 (min a b)) W := by
 intro ts t W
 go_simp
 split <;> omega
structure Tal (b : Nat) (n m : Int) (w : World) : Prop where
 cel : Cel b 87 #[.int .i64 n, .int .i64 m] w
 low : 0 ≤ n
 le : n ≤ m
 top : m ≤ 9223372036854775807
theorem Tal.off {D : Nat → Prop} {b : Nat} {n m : Int} {w w' : World} (h : Tal b n m w) (o : Off D w w') (hb : ¬ D b) : Tal b n m w' := ⟨h.cel.off o hb, h.low, h.le, h.top⟩
theorem Tal.lt {b : Nat} {n m : Int} {w : World} (h : Tal b n m w) : b < w.heap.size := h.cel.lt
theorem Tal.set {b : Nat} {n m : Int} {w : World} (h : Tal b n m w) (v : Int) (h0 : 0 ≤ v) (h1 : v ≤ m) : Tal b v m (w.setCell ⟨b, 0, none⟩ (.int .i64 v)) ∧ Off (fun c => c = b) w (w.setCell ⟨b, 0, none⟩ (.int .i64 v)) :=
 ⟨⟨h.cel.set 0 (.int .i64 v), h0, h1, h.top⟩, (Off.refl (fun c => c = b) w).setCell (p := ⟨b, 0, none⟩) (.inl rfl) _⟩
theorem tnew_any (x : Int) (hx : x ≤ 9223372036854775807) (w : World) :
  Calls Try.prog 23 #[.int .i64 x] w fun e w' => e = .returned (.pointer (some ⟨w.heap.size, 0, none⟩)) ∧ Tal w.heap.size 0 (max x 0) w' ∧ Off (fun _ => False) w w' := by
 have hm := max_int x 0
 have h0 : 0 ≤ max x 0 := by omega
 have h1 : max x 0 ≤ 9223372036854775807 := by omega
 generalize max x 0 = m at *
 go_enter Try.func23, Try.ntmps23
 go_wp2_with fail
 go_ret
 exact ⟨rfl, ⟨Cel.new w _ _, by omega, h0, h1⟩, (Off.refl _ w).alloc _⟩
theorem load_any {b : Nat} {n m : Int} {w : World} (h : Tal b n m w) :
  (callFunc 49 #[.pointer (some ⟨b, 0, none⟩)]).run Try.prog w = .ok (.value (.int .i64 n)) w :=
 run_call_load (P := Try.prog) Try.func49 (by kernel_rfl) (by kernel_rfl) (by kernel_rfl) .i64 (by kernel_rfl) (h.cel.cell 0)
theorem cas_any {b : Nat} {n m : Int} {w : World} (h : Tal b n m w) (y : Int) :
  (callFunc 50 #[.pointer (some ⟨b, 0, none⟩), .int .i64 n, .int .i64 y]).run Try.prog w = .ok (.value (.bool true)) (w.setCell ⟨b, 0, none⟩ (.int .i64 y)) :=
 run_call_cas_hit (P := Try.prog) Try.func50 (by kernel_rfl) (by kernel_rfl) (by kernel_rfl) .i64 (by kernel_rfl) (h.cel.cell 0) (h.cel.free 0)
set_option maxHeartbeats 1000000 in
theorem add_yes {b : Nat} {n m : Int} {w : World} (h : Tal b n m w) (x : Int) (h0 : 0 ≤ x) (h1 : x ≤ m - n) :
  Calls Try.prog 24 #[.pointer (some ⟨b, 0, none⟩), .int .i64 x] w fun e w' => e = .returned (.tuple #[.int .i64 (n + x), .bool true]) ∧ Tal b (n + x) m w' ∧ Off (fun c => c = b) w w' := by
 have h2 := h.low
 have h3 := h.le
 have h4 := h.top
 have HS : Hid _ := h.set (n + x) (by omega) (by omega)
 have hl := load_any h
 have hc := cas_any h (n + x)
 have hn : w.cell? ⟨b, 0, none⟩ = some (.int .i64 n) := h.cel.cell 0
 have hm : w.cell? ⟨b, 1, none⟩ = some (.int .i64 m) := h.cel.cell 1
 have hf := h.cel.free 0
 clear h
 go_enter Try.func24, Try.ntmps24
 go_wp2
 go_loop [6] (fun _ => True) (fun _ => 0)
 case atStart => trivial
 case round =>
  go_wp2
  go_ret2
  exact ⟨rfl, HS.out⟩
set_option maxHeartbeats 1000000 in
theorem add_no {b : Nat} {n m : Int} {w : World} (h : Tal b n m w) (x : Int) (h0 : 0 ≤ x) (h1 : m - n < x) :
  Calls Try.prog 24 #[.pointer (some ⟨b, 0, none⟩), .int .i64 x] w fun e w' => e = .returned (.tuple #[.int .i64 n, .bool false]) ∧ w' = w := by
 have h2 := h.low
 have h3 := h.le
 have h4 := h.top
 have hl := load_any h
 have hn : w.cell? ⟨b, 0, none⟩ = some (.int .i64 n) := h.cel.cell 0
 have hm : w.cell? ⟨b, 1, none⟩ = some (.int .i64 m) := h.cel.cell 1
 clear h
 go_enter Try.func24, Try.ntmps24
 go_wp2
 go_loop [6] (fun _ => True) (fun _ => 0)
 case atStart => trivial
 case round =>
  go_wp2
  go_ret2
  exact ⟨rfl, rfl⟩
set_option maxHeartbeats 1000000 in
theorem take_yes {b : Nat} {n m : Int} {w : World} (h : Tal b n m w) (x : Int) (h0 : 0 ≤ x) (h1 : x ≤ n) :
  Calls Try.prog 31 #[.pointer (some ⟨b, 0, none⟩), .int .i64 x] w fun e w' => e = .returned (.bool true) ∧ Tal b (n - x) m w' ∧ Off (fun c => c = b) w w' := by
 have h2 := h.low
 have h3 := h.le
 have h4 := h.top
 have HS : Hid _ := h.set (n - x) (by omega) (by omega)
 have hl := load_any h
 have hc := cas_any h (n - x)
 have hn : w.cell? ⟨b, 0, none⟩ = some (.int .i64 n) := h.cel.cell 0
 have hm : w.cell? ⟨b, 1, none⟩ = some (.int .i64 m) := h.cel.cell 1
 have hf := h.cel.free 0
 clear h
 go_enter Try.func31, Try.ntmps31
 go_wp2
 go_loop [5] (fun _ => True) (fun _ => 0)
 case atStart => trivial
 case round =>
  go_wp2
  go_ret
  exact ⟨rfl, HS.out⟩
theorem tnow_any {b : Nat} {n m : Int} {w : World} (h : Tal b n m w) :
  Calls Try.prog 35 #[.pointer (some ⟨b, 0, none⟩)] w fun e w' => e = .returned (.int .i64 n) ∧ w' = w := by
 have hl := load_any h
 have hn : w.cell? ⟨b, 0, none⟩ = some (.int .i64 n) := h.cel.cell 0
 clear h
 go_enter Try.func35, Try.ntmps35
 go_wp2
 go_ret
 exact ⟨rfl, rfl⟩
end Go.Proofs.Ytmeclfgehpbjlaa
