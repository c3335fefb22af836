/- What a call leaves of the blocks that were there; the contracts of sync.Once's parts, in a run of one goroutine. -/
import Derived.Test.YtbeaebemfcfkhaaRows
import Derived.WalkKit
import Derived.ProofKit
import Derived.Defers
import Derived.Recover
import Derived.RegionCalls
import Derived.Laws.LoneSync
import Derived.Laws.NewBlocks
namespace Go.Proofs.Ytbeaebemfcfkhaa
open Go.RowKit

/-- Behind: new blocks; of the old ones at most those of D have turned. -/
structure Off (D : Nat → Prop) (w w' : World) : Prop where
  os : w'.os = w.os
  tape : w'.tape = w.tape
  output : w'.output = w.output
  size : w.heap.size ≤ w'.heap.size
  block : ∀ k, k < w.heap.size → ¬ D k → w'.heap[k]? = w.heap[k]?

theorem Off.refl (D : Nat → Prop) (w : World) : Off D w w := ⟨rfl, rfl, rfl, Nat.le_refl _, fun _ _ _ => rfl⟩
theorem Off.trans {D E : Nat → Prop} {a b c : World} (h : Off D a b) (k : Off E b c) (hE : ∀ i, i < a.heap.size → E i → D i) : Off D a c :=
  ⟨k.os.trans h.os, k.tape.trans h.tape, k.output.trans h.output, Nat.le_trans h.size k.size,
   fun i hi hD => (k.block i (Nat.lt_of_lt_of_le hi h.size) (fun e => hD (hE i hi e))).trans (h.block i hi hD)⟩
theorem Off.mono {D E : Nat → Prop} {a b : World} (h : Off D a b) (hE : ∀ i, D i → E i) : Off E a b := ⟨h.os, h.tape, h.output, h.size, fun i hi hD => h.block i hi (fun e => hD (hE i e))⟩
theorem Off.drew {D : Nat → Prop} {a w : World} (h : Off D a w) : Off D a w.drew := ⟨h.os, h.tape, h.output, h.size, h.block⟩
theorem Off.alloc {D : Nat → Prop} {a w : World} (h : Off D a w) (o : Obj) : Off D a (w.alloc o) :=
  ⟨h.os, h.tape, h.output, Nat.le_trans h.size (by simp [World.size_alloc]), fun i hi hD => (Below.heap_alloc w o i (Nat.lt_of_lt_of_le hi h.size)).trans (h.block i hi hD)⟩
theorem Off.setCell {D : Nat → Prop} {a w : World} (h : Off D a w) {p : Addr} (hp : D p.block ∨ a.heap.size ≤ p.block) (u : Value) : Off D a (w.setCell p u) :=
  ⟨h.os, h.tape, h.output, by simpa [World.setCell] using h.size, fun i hi hD => (Below.heap_setCell w p u i (fun e => by
    rcases hp with hp | hp
    · exact hD (e ▸ hp)
    · omega)).trans (h.block i hi hD)⟩
theorem Off.below {D : Nat → Prop} {a w : World} (h : Off D a w) {B : Nat} (hB : B ≤ a.heap.size) (hD : ∀ k, D k → B ≤ k) : Below B a w :=
  ⟨h.os, h.tape, h.output, h.size, fun k hk => h.block k (Nat.lt_of_lt_of_le hk hB) (fun e => by have := hD k e; omega)⟩
theorem Off.of_below {D : Nat → Prop} {a w : World} (h : Below a.heap.size a w) : Off D a w := ⟨h.os, h.tape, h.output, h.size, fun k hk _ => h.block k hk⟩
theorem Off.grown {D : Nat → Prop} {a w w' : World} {row : Option Nat} (h : Off D a w) (hg : w.grownBy w' row) (hr : ∀ k, row = some k → D k ∨ a.heap.size ≤ k) : Off D a w' :=
  ⟨hg.os.trans h.os, hg.tape.trans h.tape, hg.output.trans h.output, Nat.le_trans h.size hg.size, fun i hi hD => (hg.block i (Nat.lt_of_lt_of_le hi h.size) (fun e => by
    rcases hr i e.symm with r | r
    · exact hD r
    · omega)).trans (h.block i hi hD)⟩

/-- The cells of a block, none of them frozen. -/
def Cel (b : Nat) (t : TypeId) (cs : Array Value) (w : World) : Prop := w.heap[b]? = some (.cells cs t (0, 0))
theorem Cel.lt {b : Nat} {t : TypeId} {cs : Array Value} {w : World} (h : Cel b t cs w) : b < w.heap.size := lt_of_block h
theorem Cel.cell {b : Nat} {t : TypeId} {cs : Array Value} {w : World} (h : Cel b t cs w) (o : Nat) : w.cell? ⟨b, o, none⟩ = cs[o]? := by
  unfold Cel at h; simp [World.cell?, h]
theorem Cel.free {b : Nat} {t : TypeId} {cs : Array Value} {w : World} (h : Cel b t cs w) (o : Nat) : w.frozen? ⟨b, o, none⟩ = false := by
  unfold Cel at h; simp [World.frozen?, h]
theorem Cel.set {b : Nat} {t : TypeId} {cs : Array Value} {w : World} (h : Cel b t cs w) (o : Nat) (u : Value) : Cel b t (cs.setIfInBounds o u) (w.setCell ⟨b, o, none⟩ u) :=
  heap_setCell_same w b o cs t u h
theorem Cel.other {b : Nat} {t : TypeId} {cs : Array Value} {w : World} (h : Cel b t cs w) {p : Addr} (hp : b ≠ p.block) (u : Value) : Cel b t cs (w.setCell p u) :=
  (Below.heap_setCell w p u b hp).trans h
theorem Cel.alloc {b : Nat} {t : TypeId} {cs : Array Value} {w : World} (h : Cel b t cs w) (o : Obj) : Cel b t cs (w.alloc o) :=
  (Below.heap_alloc w o b h.lt).trans h
theorem Cel.drew {b : Nat} {t : TypeId} {cs : Array Value} {w : World} (h : Cel b t cs w) : Cel b t cs w.drew := h
theorem Cel.off {D : Nat → Prop} {b : Nat} {t : TypeId} {cs : Array Value} {w w' : World} (h : Cel b t cs w) (k : Off D w w') (hb : ¬ D b) : Cel b t cs w' :=
  (k.block b h.lt hb).trans h
theorem Cel.new (w : World) (t : TypeId) (cs : Array Value) : Cel w.heap.size t cs (w.alloc (.cells cs t)) := heap_alloc_new w _

theorem disable (w : World) : (callFunc 44 #[]).run Try.prog w = .ok (.value (.tuple #[])) w := run_call_mark0 Try.func44 (by kernel_rfl) (by kernel_rfl) (by kernel_rfl) .disable (by kernel_rfl) w
theorem enable (w : World) : (callFunc 46 #[]).run Try.prog w = .ok (.value (.tuple #[])) w := run_call_mark0 Try.func46 (by kernel_rfl) (by kernel_rfl) (by kernel_rfl) .enable (by kernel_rfl) w
theorem acquire (a : Addr) (w : World) : (callFunc 47 #[.pointer (some a)]).run Try.prog w = .ok (.value (.tuple #[])) w := run_call_marked Try.func47 (by kernel_rfl) (by kernel_rfl) (by kernel_rfl) .acquire (by kernel_rfl) a w
theorem releaseMerge (a : Addr) (w : World) : (callFunc 49 #[.pointer (some a)]).run Try.prog w = .ok (.value (.tuple #[])) w := run_call_marked Try.func49 (by kernel_rfl) (by kernel_rfl) (by kernel_rfl) .releaseMerge (by kernel_rfl) a w

theorem store_deferred (a : Addr) (x : Value) (u : FrameMode) (w : World) (hc : w.cell? a = some x) (hz : w.frozen? a = false) :
    CallsD Try.prog 37 #[.pointer (some a), .bool true] u w fun e u' w' => u' = u ∧ (e = .returned (.tuple #[]) ∧ w' = w.drew.setCell a (.int .u32 1)) := by
  have hc' : w.drew.cell? a = some x := by go_simp
  have hz' : w.drew.frozen? a = false := by go_simp
  have hst := run_call_store (P := Try.prog) Try.func42 (by kernel_rfl) (by kernel_rfl) (by kernel_rfl) (by kernel_rfl) (k := .u32) (y := 1) hc' hz'
  go_enter_d Try.func37, Try.ntmps37
  go_wp2
  go_region_calls
  all_goals (go_end0; exact ⟨rfl, rfl⟩)

theorem unlock_deferred (a : Addr) (u : FrameMode) (w : World) (hc : w.cell? a = some (.int .i32 1)) (hz : w.frozen? a = false) :
    CallsD Try.prog 36 #[.pointer (some a)] u w fun e u' w' => u' = u ∧ (e = .returned (.tuple #[]) ∧ w' = w.setCell a (.int .i32 0)) := by
  have hd := disable
  have he := enable
  have hr := releaseMerge
  have hadd := run_call_add (P := Try.prog) Try.func50 (by kernel_rfl) (by kernel_rfl) (by kernel_rfl) .i32 (by kernel_rfl) (y := -1) (s := 0) hc hz (by simp [go_sem]; rfl)
  have hcv := run_convert_to_unsafe (P := Try.prog) (src := 78) (dst := 82) Try.underlying78 Try.underlying82 (by kernel_rfl) hc
  go_enter_d Try.func36, Try.ntmps36
  go_wp2
  go_end0
  go_wp2
  go_end0
  exact ⟨rfl, rfl⟩

theorem lock_free (a : Addr) (w : World) (hc : w.cell? a = some (.int .i32 0)) (hz : w.frozen? a = false) :
    Calls Try.prog 35 #[.pointer (some a)] w fun e w' => e = .returned (.tuple #[]) ∧ w' = w.setCell a (.int .i32 1) := by
  have hd := disable
  have he := enable
  have ha := acquire
  have hcas := run_call_cas_hit (P := Try.prog) Try.func45 (by kernel_rfl) (by kernel_rfl) (by kernel_rfl) .i32 (by kernel_rfl) (y := 1) hc hz
  have hc' : (w.setCell a (.int .i32 1)).cell? a = some (.int .i32 1) := World.cell?_setCell_same w a _ hc
  have hcv := run_convert_to_unsafe (P := Try.prog) (src := 78) (dst := 82) Try.underlying78 Try.underlying82 (by kernel_rfl) hc'
  go_enter Try.func35, Try.ntmps35
  go_wp2
  first | go_end0 | (simp only [Exit.inBlock, Exit.then]; refine bodyPost_ret (results_none rfl _ _ _) rfl ?_) | refine bodyPost_ret (results_none rfl _ _ _) rfl ?_
  go_wp2
  go_end0
  exact ⟨rfl, rfl⟩

theorem do_done (a : Addr) (fv : Value) (w : World) (h0 : w.cell? a = some (.int .u32 1)) :
    Calls Try.prog 26 #[.pointer (some a), fv] w fun e w' => e = .returned (.tuple #[]) ∧ w' = w := by
  have hl := run_call_load (P := Try.prog) Try.func34 (by kernel_rfl) (by kernel_rfl) (by kernel_rfl) .u32 (by kernel_rfl) h0
  have hnot : ∀ (x : Bool) (w : World), (Op.unary .not (.bool x)).run Try.prog w = .ok (.bool (!x)) w := fun _ _ => rfl
  go_enter Try.func26, Try.ntmps26
  go_wp2
  go_end0
  exact ⟨rfl, rfl⟩

end Go.Proofs.Ytbeaebemfcfkhaa
