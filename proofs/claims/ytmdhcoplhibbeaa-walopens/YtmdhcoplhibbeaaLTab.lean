/- The contracts of package lazy's parts: New, ask, the slow road of sync.Once. -/
import Derived.Test.YtmdhcoplhibbeaaLBase
namespace Go.Proofs.Ytmdhcoplhibbeaa
set_option maxRecDepth 100000
open Go.RowKit

/-- A table at block b: its size, what tells, whether it is done, whether its lock is held, its numbers, how many were made. -/
def Tb (b : Nat) (k : Int) (fv : Value) (d s : Int) (nums : Value) (m : Int) (w : World) : Prop :=
  Cel b 92 #[.int .i64 k, fv, .int .u32 d, .int .i32 s, .int .u32 0, nums, .int .i64 m] w

theorem Tb.off {D : Nat → Prop} {b : Nat} {k : Int} {fv : Value} {d s : Int} {nums : Value} {m : Int} {w w' : World} (h : Tb b k fv d s nums m w) (o : Off D w w') (hb : ¬ D b) : Tb b k fv d s nums m w' := Cel.off h o hb
theorem Tb.lt {b : Nat} {k : Int} {fv : Value} {d s : Int} {nums : Value} {m : Int} {w : World} (h : Tb b k fv d s nums m w) : b < w.heap.size := Cel.lt h
theorem Tb.c0 {b : Nat} {k : Int} {fv : Value} {d s : Int} {nums : Value} {m : Int} {w : World} (h : Tb b k fv d s nums m w) : w.cell? ⟨b, 0, none⟩ = some (.int .i64 k) := by rw [Cel.cell h]; rfl
theorem Tb.c1 {b : Nat} {k : Int} {fv : Value} {d s : Int} {nums : Value} {m : Int} {w : World} (h : Tb b k fv d s nums m w) : w.cell? ⟨b, 1, none⟩ = some fv := by rw [Cel.cell h]; rfl
theorem Tb.c2 {b : Nat} {k : Int} {fv : Value} {d s : Int} {nums : Value} {m : Int} {w : World} (h : Tb b k fv d s nums m w) : w.cell? ⟨b, 2, none⟩ = some (.int .u32 d) := by rw [Cel.cell h]; rfl
theorem Tb.c3 {b : Nat} {k : Int} {fv : Value} {d s : Int} {nums : Value} {m : Int} {w : World} (h : Tb b k fv d s nums m w) : w.cell? ⟨b, 3, none⟩ = some (.int .i32 s) := by rw [Cel.cell h]; rfl
theorem Tb.c5 {b : Nat} {k : Int} {fv : Value} {d s : Int} {nums : Value} {m : Int} {w : World} (h : Tb b k fv d s nums m w) : w.cell? ⟨b, 5, none⟩ = some nums := by rw [Cel.cell h]; rfl
theorem Tb.c6 {b : Nat} {k : Int} {fv : Value} {d s : Int} {nums : Value} {m : Int} {w : World} (h : Tb b k fv d s nums m w) : w.cell? ⟨b, 6, none⟩ = some (.int .i64 m) := by rw [Cel.cell h]; rfl
theorem Tb.fr {b : Nat} {k : Int} {fv : Value} {d s : Int} {nums : Value} {m : Int} {w : World} (h : Tb b k fv d s nums m w) (o : Nat) : w.frozen? ⟨b, o, none⟩ = false := Cel.free h o
theorem Tb.s1 {b : Nat} {k : Int} {fv : Value} {d s : Int} {nums : Value} {m : Int} {w : World} (h : Tb b k fv d s nums m w) (u : Value) : Tb b k u d s nums m (w.setCell ⟨b, 1, none⟩ u) := Cel.set h 1 u
theorem Tb.s2 {b : Nat} {k : Int} {fv : Value} {d s : Int} {nums : Value} {m : Int} {w : World} (h : Tb b k fv d s nums m w) (u : Int) : Tb b k fv u s nums m (w.setCell ⟨b, 2, none⟩ (.int .u32 u)) := Cel.set h 2 _
theorem Tb.s3 {b : Nat} {k : Int} {fv : Value} {d s : Int} {nums : Value} {m : Int} {w : World} (h : Tb b k fv d s nums m w) (u : Int) : Tb b k fv d u nums m (w.setCell ⟨b, 3, none⟩ (.int .i32 u)) := Cel.set h 3 _
theorem Tb.s5 {b : Nat} {k : Int} {fv : Value} {d s : Int} {nums : Value} {m : Int} {w : World} (h : Tb b k fv d s nums m w) (u : Value) : Tb b k fv d s u m (w.setCell ⟨b, 5, none⟩ u) := Cel.set h 5 u
theorem Tb.s6 {b : Nat} {k : Int} {fv : Value} {d s : Int} {nums : Value} {m : Int} {w : World} (h : Tb b k fv d s nums m w) (u : Int) : Tb b k fv d s nums u (w.setCell ⟨b, 6, none⟩ (.int .i64 u)) := Cel.set h 6 _

theorem new_fn (n : Int) (g : Fn) (first caps : Array Value) (w : World) :
    Calls Try.prog 45 #[.int .i64 n, (.func g first caps)] w fun e w' => e = .returned (.pointer (some ⟨w.heap.size, 0, none⟩)) ∧ Tb w.heap.size (min (max n 0) 4096) (.func g first caps) 0 0 (.slice none 0 0) 0 w' ∧ Off (fun _ => False) w w' := by
  have E : Off (fun _ => False) w (w.alloc (.cells #[.int .i64 (min (max n 0) 4096), (.func g first caps), .int .u32 0, .int .i32 0, .int .u32 0, .slice none 0 0, .int .i64 0] 92)) := (Off.refl _ _).alloc _
  have N : Tb w.heap.size (min (max n 0) 4096) (.func g first caps) 0 0 (.slice none 0 0) 0 (w.alloc (.cells #[.int .i64 (min (max n 0) 4096), (.func g first caps), .int .u32 0, .int .i32 0, .int .u32 0, .slice none 0 0, .int .i64 0] 92)) := Cel.new _ _ _
  rcases (show n < 0 ∨ (0 ≤ n ∧ n ≤ 4096) ∨ 4096 < n by omega) with h | ⟨h, h'⟩ | h
  · have e : min (max n 0) 4096 = 0 := by omega
    rw [e] at E N ⊢
    clear e
    go_enter Try.func45, Try.ntmps45
    go_wp2
    go_ret
    exact ⟨rfl, N, E⟩
  · have e : min (max n 0) 4096 = n := by omega
    rw [e] at E N ⊢
    clear e
    go_enter Try.func45, Try.ntmps45
    go_wp2
    all_goals
      go_ret
      exact ⟨rfl, N, E⟩
  · have e : min (max n 0) 4096 = 4096 := by omega
    rw [e] at E N ⊢
    clear e
    go_enter Try.func45, Try.ntmps45
    go_wp2
    all_goals
      go_ret
      exact ⟨rfl, N, E⟩

theorem ask1_idle (p : Addr) (w : World) :
    CallsD Try.prog 59 #[.pointer (some p)] .returning w fun e u' w' => e = .returned (.tuple #[]) ∧ u' = .returning ∧ w' = w := by
  refine callsD_of_wpS Try.func59 rfl fun c₀ cs hu => ?_
  apply wpS_seq
  apply wpS_region
  simp [wpOpsS, go_sem, recoverD, hu, Try.ntmps59, Exit.thenS]
  refine wpS_cond (t := false) (by simp [Act.eval, Array.replicate]) ?_
  simp only [Bool.false_eq_true, if_false]
  refine wpS_of_wp (wp_skip ?_)
  cases c₀
  simp_all [bodyPostS, results, Try.results59]

theorem ask_some (g : FuncId) (caps : Array Value) (i v : Int) (w : World) (R : World → Prop) (hen : ∀ args w, (callFunc g args).run Try.prog w = .ok (.enter g args) w)
    (hc : Calls Try.prog g (#[.int .i64 i] ++ caps) (w.alloc (.cells #[.int .u32 0] 55)) fun e w' => e = .returned (.int .u32 v) ∧ R w' ∧ Cel w.heap.size 55 #[.int .u32 0] w') :
    Calls Try.prog 53 #[.func (.func g) #[] caps, .int .i64 i] w fun e w' => e = .returned (.int .u32 v) ∧ ∃ w1, R w1 ∧ Cel w.heap.size 55 #[.int .u32 0] w1 ∧ w' = w1.setCell ⟨w.heap.size, 0, none⟩ (.int .u32 v) := by
  have hmf : ∀ (fn : Fn) (first cap : Array Value) (w : World), (Instr.makeFunc fn first cap).run Try.prog w = .ok (.func fn first cap) w := fun _ _ _ _ => rfl
  have HC : Hid (Calls Try.prog g (#[.int .i64 i] ++ caps) (w.alloc (.cells #[.int .u32 0] 55)) fun e w' => e = .returned (.int .u32 v) ∧ R w' ∧ Cel w.heap.size 55 #[.int .u32 0] w') := hc
  clear hc
  go_enter_defers Try.func53, Try.ntmps53
  go_wp2_with fail
  refine HC.out.mono ?_
  rintro e w1 ⟨rfl, hR, hcel⟩
  have c0 := hcel.cell 0
  have f0 := hcel.free 0
  go_wp2
  refine leaves_cons (f := 59) (args := #[.pointer (some ⟨w.heap.size, 0, none⟩)]) (by simp) (by simp [go_sem]) ?_
  refine (ask1_idle ⟨w.heap.size, 0, none⟩ _).mono ?_
  rintro e u' w'' ⟨rfl, rfl, rfl⟩
  have c1 : (w1.setCell ⟨w.heap.size, 0, none⟩ (.int .u32 v)).cell? ⟨w.heap.size, 0, none⟩ = some (.int .u32 v) := by rw [(hcel.set 0 _).cell]; rfl
  simp [Leaves, settle, results, Try.results53, go_sem, c1]
  exact ⟨w1, hR, hcel, rfl⟩

theorem slow_any (b : Nat) (w : World) (R : World → Prop) (k : Int) (fv nums : Value) (m : Int) (ht : Tb b k fv 0 0 nums m w)
    (hf : ∀ w1, w1 = w.setCell ⟨b, 3, none⟩ (.int .i32 1) → Calls Try.prog 50 #[.pointer (some ⟨b, 0, none⟩)] w1 fun e w2 => e = .returned (.tuple #[]) ∧ R w2 ∧ ∃ fv' nums' m', Tb b k fv' 0 1 nums' m' w2) :
    Calls Try.prog 52 #[.pointer (some ⟨b, 2, none⟩), .func (.func 50) #[.pointer (some ⟨b, 0, none⟩)] #[]] w fun e w' => e = .returned (.tuple #[]) ∧
      ∃ w2, R w2 ∧ (∃ fv' nums' m', Tb b k fv' 0 1 nums' m' w2) ∧ w' = (w2.drew.setCell ⟨b, 2, none⟩ (.int .u32 1)).setCell ⟨b, 3, none⟩ (.int .i32 0) := by
  have t1 := ht.s3 1
  have HF : Hid (Calls Try.prog 50 #[.pointer (some ⟨b, 0, none⟩)] (w.setCell ⟨b, 3, none⟩ (.int .i32 1)) fun e w2 => e = .returned (.tuple #[]) ∧ R w2 ∧ ∃ fv' nums' m', Tb b k fv' 0 1 nums' m' w2) := hf _ rfl
  clear hf
  have hl := run_call_load (P := Try.prog) Try.func55 (by kernel_rfl) (by kernel_rfl) (by kernel_rfl) .u32 (by kernel_rfl) t1.c2
  have c3 := ht.c3
  have f3 := ht.fr 3
  have hnot : ∀ (x : Bool) (w : World), (Op.unary .not (.bool x)).run Try.prog w = .ok (.bool (!x)) w := fun _ _ => rfl
  go_enter_defers Try.func52, Try.ntmps52
  go_wp2_with fail
  refine (lock_free ⟨b, 3, none⟩ _ c3 f3).mono ?_
  rintro e w' ⟨rfl, rfl⟩
  go_wp2_with (go_at_call 51; go_in)
  refine HF.out.mono ?_
  rintro e w2 ⟨rfl, hR, fv', nums', m', t2⟩
  go_wp2_with fail
  refine leaves_cons (f := 58) (args := #[.pointer (some ⟨b, 2, none⟩), .bool true]) (by simp) (by simp [go_sem]) ?_
  refine (store_deferred ⟨b, 2, none⟩ (.int .u32 0) .returning _ t2.c2 (t2.fr 2)).mono ?_
  rintro e u' w'' ⟨rfl, rfl, rfl⟩
  have t3 : Tb b k fv' 1 1 nums' m' (w2.drew.setCell ⟨b, 2, none⟩ (.int .u32 1)) := Tb.s2 (Cel.drew t2) 1
  refine leaves_cons (f := 57) (args := #[.pointer (some ⟨b, 3, none⟩)]) (by simp [settle]) (by simp [go_sem]) ?_
  refine (unlock_deferred ⟨b, 3, none⟩ _ _ t3.c3 (t3.fr 3)).mono ?_
  rintro e u' w'' ⟨rfl, rfl, rfl⟩
  simp [Leaves, settle, results, Try.results52]
  exact ⟨w2, hR, ⟨fv', nums', m', t2⟩, rfl⟩

theorem do_first (b : Nat) (w : World) (R : World → Prop) (k : Int) (fv nums : Value) (m : Int) (ht : Tb b k fv 0 0 nums m w)
    (hf : ∀ w1, w1 = w.setCell ⟨b, 3, none⟩ (.int .i32 1) → Calls Try.prog 50 #[.pointer (some ⟨b, 0, none⟩)] w1 fun e w2 => e = .returned (.tuple #[]) ∧ R w2 ∧ ∃ fv' nums' m', Tb b k fv' 0 1 nums' m' w2) :
    Calls Try.prog 49 #[.pointer (some ⟨b, 2, none⟩), .func (.func 50) #[.pointer (some ⟨b, 0, none⟩)] #[]] w fun e w' => e = .returned (.tuple #[]) ∧
      ∃ w2, R w2 ∧ (∃ fv' nums' m', Tb b k fv' 0 1 nums' m' w2) ∧ w' = (w2.drew.setCell ⟨b, 2, none⟩ (.int .u32 1)).setCell ⟨b, 3, none⟩ (.int .i32 0) := by
  have HF : Hid _ := hf
  clear hf
  have hl := run_call_load (P := Try.prog) Try.func55 (by kernel_rfl) (by kernel_rfl) (by kernel_rfl) .u32 (by kernel_rfl) ht.c2
  have hnot : ∀ (x : Bool) (w : World), (Op.unary .not (.bool x)).run Try.prog w = .ok (.bool (!x)) w := fun _ _ => rfl
  go_enter Try.func49, Try.ntmps49
  go_wp2_with (go_at_call 51; go_in)
  refine (slow_any b w R k fv nums m ht HF.out).mono ?_
  rintro e w' ⟨rfl, hw⟩
  go_wp2_with fail
  go_end0
  exact ⟨rfl, hw⟩

end Go.Proofs.Ytmdhcoplhibbeaa
