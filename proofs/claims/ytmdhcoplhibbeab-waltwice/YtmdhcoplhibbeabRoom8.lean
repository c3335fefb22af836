/- The walk of WalRoom. -/
import Derived.Test.YtmdhcoplhibbeabAwk8
namespace Go.Proofs.Ytmdhcoplhibbeab
open Go.RowKit

theorem u64_mod (p : Int) (n : Nat) (hn : 0 < n) : ∃ m : Nat, m < n ∧ (IntKind.u64.wrap p).tmod (n : Int) = (m : Int) := by
  refine ⟨(p % 18446744073709551616).toNat % n, Nat.mod_lt _ hn, ?_⟩
  have e : IntKind.u64.wrap p = (((p % 18446744073709551616).toNat : Nat) : Int) := by
    simp only [IntKind.wrap, IntKind.bits, IntKind.signed]
    go_num
  rw [e]
  rfl
/-- The row of a slice that was made: n bytes, each 0. -/
def madeB (n : Nat) : Array Value := madeCells (Value.int .u8 0).cells n
theorem madeB_at {n j : Nat} (h : j < n) : (madeB n)[j]? = some (.int .u8 0) := by
  simp [madeB, madeCells, h, Value.cells, Nat.mod_one]
theorem make_run (n : Nat) (hn : n ≤ 1000000) (W : World) : (Instr.makeSlice 23 (.int .i64 (n : Int)) (.int .i64 (n : Int))).run Try.prog W = .ok (.slice (some ⟨W.heap.size, 0, none⟩) n n) (W.alloc (.cells (madeB n) 5)) := by
  obtain ⟨i0, hi, hz0, hz1, hz2⟩ := info_parts Try.infoB
  have h := run_makeSlice (P := Try.prog) W 23 5 i0 (.int .u8 0) Try.underlying23 hi hz0 .i64 .i64 (n : Int) (n : Int) (by omega) (by omega) (by rw [hz1]; omega) (by rw [hz2]; omega) (by omega)
  rw [h]
  simp [madeB, hz1]
theorem src_made (w : World) (xs : List Nat) (hx : ∀ x ∈ xs, x = 0) : Src (w.alloc (.cells (madeB xs.length) 5)) (some ⟨w.heap.size, 0, none⟩) xs.length xs := by
  have h := heap_alloc_new w (.cells (madeB xs.length) 5)
  refine ⟨.inr ⟨_, rfl, fun j u hj => ?_⟩⟩
  have hj' := vl_lt hj
  rw [vl_get _ _ hj'] at hj
  rw [add_lit]
  simp only [World.cell?]
  rw [h]
  have e : xs.getD j 0 = 0 := by
    have : xs.getD j 0 = xs[j] := by simp [hj']
    rw [this]
    exact hx _ (List.getElem_mem hj')
  rw [e] at hj
  have := madeB_at hj'
  simp only [Nat.zero_add]
  rw [this]
  exact hj
theorem zeros (k : Nat) : ∃ xs : List Nat, xs.length = k ∧ ∀ x ∈ xs, x = 0 := ⟨List.replicate k 0, by simp, fun x hx => by simpa using (List.mem_replicate.1 hx).2⟩
theorem made_inp (w : World) (xs : List Nat) (hx : ∀ x ∈ xs, x = 0) : Inp (w.alloc (.cells (madeB xs.length) 5)) (some ⟨w.heap.size, 0, none⟩) xs.length xs :=
  ⟨src_made w xs hx, Nat.le_refl _, fun x h => by rw [hx x h]; decide⟩
theorem roomOf_small {m : Nat} (h : m ≤ 1048576) : roomOf (m : Int) = m := by unfold roomOf; omega

/-- Rows that a law made out of an argument: where they lie, what they read as since the law began. -/
structure Kept (w : World) (D : Nat → Prop) (v : World) (t : Option Addr) (c : Nat) (sl : List B) : Prop where
  own : OwnG 23 1 bcs v t c sl
  no : ∀ k, blk t = some k → ¬ D k
  inp : ∀ x ∈ sl, Inp w x.ad x.cap x.data
  len : sl.length ≤ 30
  five : ∀ x ∈ sl, x.data.length ≤ 400
theorem Kept.chg {w : World} {D E : Nat → Prop} {v v' : World} {t : Option Addr} {c : Nat} {sl : List B} (h : Kept w D v t c sl) (k : Chg D E v v') : Kept w E v' t c sl :=
  ⟨h.own.off k.off (fun c _ e => h.no c e), fun c e => k.not (h.own.lt c e) (h.no c e), h.inp, h.len, h.five⟩
theorem Kept.rws {w : World} {D : Nat → Prop} {v : World} {t : Option Addr} {c : Nat} {sl : List B} (h : Kept w D v t c sl) (o : Off (fun _ => False) w v) : Rws v t c sl := ⟨h.own, fun x hx => (h.inp x hx).free o, h.len, h.five⟩
theorem small_kept {w v : World} {D : Nat → Prop} {a : Option Addr} (cap : Nat) {bl : List B} (h : ArgL w a bl) (o : Off (fun _ => False) w v) (hD : ∀ c, D c → c < v.heap.size) :
    Calls Try.prog 7 #[.slice a bl.length cap] v fun e v' => ∃ (t : Option Addr) (c : Nat) (sl : List B), e = .returned (.slice t sl.length c) ∧ Kept w D v' t c sl ∧ sl.map B.data = smL (bl.map B.data) ∧ Off (fun _ => False) v v' := by
  refine (smallB_any cap (h.off o)).mono ?_
  rintro e v' ⟨t, c, sl, rfl, rw_, hin, fr, hd, o'⟩
  exact ⟨t, c, sl, rfl, ⟨rw_.own, fun k hk hk2 => by have := fr k hk; have := hD k hk2; omega, fun x hx => h.inp x (hin x hx), rw_.len, rw_.five⟩, hd, o'⟩

/-- The log of a law and its rows, at a round. -/
structure Rnd (w : World) (lb b most : Nat) (t : Option Addr) (c : Nat) (sl : List B) (rs : List (List Nat)) (v : World) : Prop where
  off : Off (fun _ => False) w v
  is : ∃ D, Std D lb b most rs v ∧ Kept w D v t c sl ∧ ∀ c, D c → w.heap.size ≤ c
theorem Rnd.free {w : World} {lb b most : Nat} {t : Option Addr} {c : Nat} {sl : List B} {rs : List (List Nat)} {v v' : World} (h : Rnd w lb b most t c sl rs v) (o : Off (fun _ => False) v v') : Rnd w lb b most t c sl rs v' := by
  obtain ⟨h1, D, sd, kp, nw⟩ := h
  exact ⟨h1.trans o (fun _ _ h => h), D, sd.free o, kp.chg ((Chg.refl D v).free o), nw⟩
theorem Rnd.append {w : World} {lb b most : Nat} {t : Option Addr} {c : Nat} {sl : List B} {rs : List (List Nat)} {v : World} (h : Rnd w lb b most t c sl rs v) {t1 : Option Addr} {c1 : Nat} {r : List Nat} (hi : Inp v t1 c1 r) (hl : r.length ≤ 60000) :
    Calls Try.prog 8 #[.pointer (some ⟨lb, 0, none⟩), .slice t1 r.length c1] v fun e v' => ∃ er : Int, e = .returned (.int .i64 er) ∧ Rnd w lb b most t c sl (addL most rs r) v' := by
  obtain ⟨h1, D, sd, kp, nw⟩ := h
  refine (append_or sd hi hl).mono ?_
  rintro e v' ⟨er, rfl, D', sd', ch⟩
  obtain ⟨o', n'⟩ := ch.new h1 nw
  exact ⟨er, rfl, o', D', sd', kp.chg ch, n'⟩

end Go.Proofs.Ytmdhcoplhibbeab
