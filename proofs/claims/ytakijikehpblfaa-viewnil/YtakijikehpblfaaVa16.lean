/- Rows of members and numbers in a block of their own; the program's New and All. -/
import Derived.Test.YtakijikehpblfaaVk16
import Derived.Laws.CopyRow
namespace Go.Proofs.Ytakijikehpblfaa
set_option maxRecDepth 100000
open Go.RowKit

/-- A block of n members. -/
structure MRow (q n : Nat) (f : Nat → Mb) (w : World) : Prop where
  is : ∃ cs : Array Value, Cel q 46 cs w ∧ ∀ i, i < n → cs[i * 2]? = some (.int .i64 (f i).1) ∧ cs[i * 2 + 1]? = some (.int .i64 (f i).2)
/-- A block of n numbers. -/
structure IRow (q n : Nat) (f : Nat → Int) (w : World) : Prop where
  is : ∃ cs : Array Value, Cel q 3 cs w ∧ ∀ i, i < n → cs[i]? = some (.int .i64 (f i))
theorem MRow.off {D : Nat → Prop} {q n : Nat} {f : Nat → Mb} {w w' : World} (h : MRow q n f w) (k : Off D w w') (hD : ¬ D q) : MRow q n f w' := by
  obtain ⟨cs, hc, h⟩ := h.is
  exact ⟨cs, hc.off k hD, h⟩
theorem IRow.off {D : Nat → Prop} {q n : Nat} {f : Nat → Int} {w w' : World} (h : IRow q n f w) (k : Off D w w') (hD : ¬ D q) : IRow q n f w' := by
  obtain ⟨cs, hc, h⟩ := h.is
  exact ⟨cs, hc.off k hD, h⟩
theorem MRow.lt {q n : Nat} {f : Nat → Mb} {w : World} (h : MRow q n f w) : q < w.heap.size := by obtain ⟨cs, hc, -⟩ := h.is; exact hc.lt
theorem IRow.lt {q n : Nat} {f : Nat → Int} {w : World} (h : IRow q n f w) : q < w.heap.size := by obtain ⟨cs, hc, -⟩ := h.is; exact hc.lt
theorem MRow.m0 {q n : Nat} {f : Nat → Mb} {w : World} (h : MRow q n f w) {i : Nat} (hi : i < n) : w.cell? ⟨q, i * 2, none⟩ = some (.int .i64 (f i).1) := by
  obtain ⟨cs, hc, h⟩ := h.is
  exact (hc.cell _).trans (h i hi).1
theorem MRow.m1 {q n : Nat} {f : Nat → Mb} {w : World} (h : MRow q n f w) {i : Nat} (hi : i < n) : w.cell? ⟨q, i * 2 + 1, none⟩ = some (.int .i64 (f i).2) := by
  obtain ⟨cs, hc, h⟩ := h.is
  exact (hc.cell _).trans (h i hi).2
theorem IRow.at_ {q n : Nat} {f : Nat → Int} {w : World} (h : IRow q n f w) {i : Nat} (hi : i < n) : w.cell? ⟨q, i, none⟩ = some (.int .i64 (f i)) := by
  obtain ⟨cs, hc, h⟩ := h.is
  exact (hc.cell _).trans (h i hi)
theorem MRow.free {q n : Nat} {f : Nat → Mb} {w : World} (h : MRow q n f w) (o : Nat) : w.frozen? ⟨q, o, none⟩ = false := by obtain ⟨cs, hc, -⟩ := h.is; exact hc.free o
theorem IRow.free {q n : Nat} {f : Nat → Int} {w : World} (h : IRow q n f w) (o : Nat) : w.frozen? ⟨q, o, none⟩ = false := by obtain ⟨cs, hc, -⟩ := h.is; exact hc.free o
theorem some_lt {α : Type} {cs : Array α} {i : Nat} {x : α} (h : cs[i]? = some x) : i < cs.size := by
  obtain ⟨h, -⟩ := Array.getElem?_eq_some_iff.1 h
  exact h
theorem MRow.set {q n : Nat} {f : Nat → Mb} {w : World} (h : MRow q n f w) (i : Nat) (hi : i < n) (x : Mb) : MRow q n (upd f i x) ((w.setCell ⟨q, i * 2, none⟩ (.int .i64 x.1)).setCell ⟨q, i * 2 + 1, none⟩ (.int .i64 x.2)) := by
  obtain ⟨cs, hc, h⟩ := h.is
  refine ⟨_, (hc.set _ _).set _ _, fun j hj => ?_⟩
  have h1 := some_lt (h i hi).1
  have h2 := some_lt (h i hi).2
  by_cases e : j = i
  · subst e
    rw [upd_same]
    constructor
    · rw [Array.getElem?_setIfInBounds_ne (by omega), Array.getElem?_setIfInBounds_self_of_lt h1]
    · rw [Array.getElem?_setIfInBounds_self_of_lt (by simpa using h2)]
  · rw [upd_ne _ _ e, Array.getElem?_setIfInBounds_ne (by omega), Array.getElem?_setIfInBounds_ne (by omega), Array.getElem?_setIfInBounds_ne (by omega), Array.getElem?_setIfInBounds_ne (by omega)]
    exact h j hj
theorem MRow.set0 {q n : Nat} {f : Nat → Mb} {w : World} (h : MRow q n f w) (i : Nat) (hi : i < n) (x : Int) : MRow q n (upd f i (x, (f i).2)) (w.setCell ⟨q, i * 2, none⟩ (.int .i64 x)) := by
  obtain ⟨cs, hc, h⟩ := h.is
  refine ⟨_, hc.set _ _, fun j hj => ?_⟩
  have h1 := some_lt (h i hi).1
  by_cases e : j = i
  · subst e
    rw [upd_same, Array.getElem?_setIfInBounds_self_of_lt h1, Array.getElem?_setIfInBounds_ne (by omega)]
    exact ⟨rfl, (h j hj).2⟩
  · rw [upd_ne _ _ e, Array.getElem?_setIfInBounds_ne (by omega), Array.getElem?_setIfInBounds_ne (by omega)]
    exact h j hj
theorem IRow.set {q n : Nat} {f : Nat → Int} {w : World} (h : IRow q n f w) (i : Nat) (hi : i < n) (x : Int) : IRow q n (upd f i x) (w.setCell ⟨q, i, none⟩ (.int .i64 x)) := by
  obtain ⟨cs, hc, h⟩ := h.is
  refine ⟨_, hc.set _ _, fun j hj => ?_⟩
  have h1 := some_lt (h i hi)
  by_cases e : j = i
  · subst e
    rw [upd_same, Array.getElem?_setIfInBounds_self_of_lt h1]
  · rw [upd_ne _ _ e, Array.getElem?_setIfInBounds_ne (by omega)]
    exact h j hj
/-- As a list. -/
def lsM (f : Nat → Mb) (n : Nat) : List Mb := (List.range n).map f
theorem lsM_len (f : Nat → Mb) (n : Nat) : (lsM f n).length = n := by simp [lsM]
theorem lsM_get (f : Nat → Mb) {n i : Nat} (h : i < n) : (lsM f n)[i]? = some (f i) := by simp [lsM, h]
theorem MRow.mls {q n : Nat} {f : Nat → Mb} {w : World} (h : MRow q n f w) (hn : n ≤ 8) : Mls w (some ⟨q, 0, none⟩) n (lsM f n) := by
  refine ⟨by rw [lsM_len]; omega, fun i x hi => ?_⟩
  have hin : i < n := by
    obtain ⟨h, -⟩ := List.getElem?_eq_some_iff.1 hi
    rwa [lsM_len] at h
  rw [lsM_get f hin] at hi
  obtain rfl := Option.some.inj hi
  exact ⟨q, 0, rfl, by rw [Nat.zero_add]; exact h.m0 hin, by rw [Nat.zero_add]; exact h.m1 hin⟩

def madeM (n : Nat) : Array Value := madeCells (Value.agg #[.int .i64 0, .int .i64 0]).cells (n * 2)
def madeI (n : Nat) : Array Value := madeCells (Value.int .i64 0).cells n
theorem madeM_size (n : Nat) : (madeM n).size = n * 2 := by simp [madeM, madeCells]
theorem madeM_at {n j : Nat} (h : j < n * 2) : (madeM n)[j]? = some (.int .i64 0) := by
  have e : (Value.agg #[.int .i64 0, .int .i64 0]).cells = #[.int .i64 0, .int .i64 0] := by kernel_rfl
  unfold madeM
  rw [e]
  simp [madeCells, h]
  rcases Nat.mod_two_eq_zero_or_one j with h | h <;> simp [h]
theorem madeI_at {n j : Nat} (h : j < n) : (madeI n)[j]? = some (.int .i64 0) := by
  simp [madeI, madeCells, h, Value.cells, Nat.mod_one]
theorem Try.infoI : (Try.prog.info? 3).map (fun i => (i.zero, i.size, i.bytes)) = some (some (.int .i64 0), 1, 8) := by kernel_rfl
theorem makeM (n : Nat) (hn : n ≤ 1000) (W : World) : (Instr.makeSlice 29 (.int .i64 (n : Int)) (.int .i64 (n : Int))).run Try.prog W = .ok (.slice (some ⟨W.heap.size, 0, none⟩) n n) (W.alloc (.cells (madeM n) 46)) := by
  obtain ⟨i0, hi, hz0, hz1, hz2⟩ := info_parts Try.infoM
  have h := run_makeSlice (P := Try.prog) W 29 46 i0 (.agg #[.int .i64 0, .int .i64 0]) Try.underlying29 hi hz0 .i64 .i64 (n : Int) (n : Int) (by omega) (by omega) (by rw [hz1]; omega) (by rw [hz2]; omega) (by omega)
  rw [h]
  simp [madeM, hz1]
theorem makeI (n : Nat) (hn : n ≤ 1000) (W : World) : (Instr.makeSlice 35 (.int .i64 (n : Int)) (.int .i64 (n : Int))).run Try.prog W = .ok (.slice (some ⟨W.heap.size, 0, none⟩) n n) (W.alloc (.cells (madeI n) 3)) := by
  obtain ⟨i0, hi, hz0, hz1, hz2⟩ := info_parts Try.infoI
  have h := run_makeSlice (P := Try.prog) W 35 3 i0 (.int .i64 0) Try.underlying35 hi hz0 .i64 .i64 (n : Int) (n : Int) (by omega) (by omega) (by rw [hz1]; omega) (by rw [hz2]; omega) (by omega)
  rw [h]
  simp [madeI, hz1]
theorem MRow.new (w : World) (n : Nat) : MRow w.heap.size n (fun _ => (0, 0)) (w.alloc (.cells (madeM n) 46)) :=
  ⟨_, Cel.new w _ _, fun _ hi => ⟨madeM_at (by omega), madeM_at (by omega)⟩⟩
theorem IRow.new (w : World) (n : Nat) : IRow w.heap.size n (fun _ => 0) (w.alloc (.cells (madeI n) 3)) :=
  ⟨_, Cel.new w _ _, fun _ hi => madeI_at hi⟩
theorem off_setRow {w : World} {g : Nat} (cs : Array Value) : Off (fun c => c = g) w (w.setRow g cs) :=
  ⟨rfl, rfl, rfl, by simp, fun k _ hk => setRow_other w g k cs hk⟩
theorem Cel.setRow {w : World} {g : Nat} {t : TypeId} {cur : Array Value} (h : Cel g t cur w) (cs : Array Value) : Cel g t cs (w.setRow g cs) := ⟨setRow_heap w g cur cs t _ h.is⟩
theorem lsM_cells (f : Nat → Mb) (n : Nat) : ∀ i, i < n → ((lsM f n).flatMap mcs)[i * 2]? = some (.int .i64 (f i).1) ∧ ((lsM f n).flatMap mcs)[i * 2 + 1]? = some (.int .i64 (f i).2) := fun _ hi =>
  ⟨flat_get mcs_len (lsM_get f hi) (j := 0) rfl, flat_get mcs_len (lsM_get f hi) (j := 1) rfl⟩
theorem lsM_flat (f : Nat → Mb) (n : Nat) : ((lsM f n).flatMap mcs).length = n * 2 := by
  have : ∀ l : List Mb, (l.flatMap mcs).length = l.length * 2 := fun l => by
    induction l with
    | nil => rfl
    | cons x l ih => rw [List.flatMap_cons, List.length_append, ih, mcs_len, List.length_cons]; omega
  rw [this, lsM_len]
/-- 'copy' of the members of a view into a row that was made. -/
theorem copy_view {p : Nat} {d : VD} {w : World} (h : Vw p d w) {g : Nat} {cur : Array Value} (hg : Cel g 46 cur w) (hc : cur.size = d.n * 2) (ty : TypeId) :
    ∃ w', (Builtin.copy_ #[29, 29] ty #[.slice (some ⟨g, 0, none⟩) d.n d.n, .slice (some ⟨p, 2, none⟩) 8 8]).run Try.prog w = .ok (goInt d.n) w' ∧ MRow g d.n d.m w' ∧ Off (fun c => c = g) w w' := by
  obtain ⟨i0, hi, hz0, hz1, hz2⟩ := info_parts Try.infoM
  have hn := h.n8
  have hfl := lsM_flat d.m d.n
  have hsrc : ∀ j v, ((lsM d.m d.n).flatMap mcs)[j]? = some v → w.cell? ((⟨p, 2, none⟩ : Addr).add j) = some v := fun j v hj => by
    have hjl : j < d.n * 2 := by
      obtain ⟨h, -⟩ := List.getElem?_eq_some_iff.1 hj
      omega
    rw [add_lit]
    have hx := lsM_cells d.m d.n (j / 2) (by omega)
    rcases Nat.mod_two_eq_zero_or_one j with e | e
    · have e2 : j = j / 2 * 2 := by omega
      rw [e2, hx.1] at hj
      rw [e2, h.m0 (by omega), hj]
    · have e2 : j = j / 2 * 2 + 1 := by omega
      rw [e2, hx.2] at hj
      rw [e2, ← Nat.add_assoc, h.m1 (by omega), hj]
  have hl := run_loadCells_list (P := Try.prog) w ⟨p, 2, none⟩ _ hsrc
  have h1 : ∀ v ∈ (lsM d.m d.n).flatMap mcs, v.oneCell' = true := fun v hv => by
    obtain ⟨x, -, hx⟩ := List.mem_flatMap.1 hv
    exact mcs_one x v hx
  have hst := run_storeCells_at Try.prog g 0 46 ((lsM d.m d.n).flatMap mcs) 0 cur w hg.is (by omega) h1
  obtain ⟨R, hR⟩ : ∃ R : Array Value, R = (List.take (0 + 0) cur.toList ++ List.flatMap mcs (lsM d.m d.n) ++ List.drop (0 + 0 + (List.flatMap mcs (lsM d.m d.n)).length) cur.toList).toArray := ⟨_, rfl⟩
  rw [← hR] at hst
  refine ⟨w.setRow g R, ?_, ⟨R, hg.setRow R, fun i hi => ?_⟩, off_setRow R⟩
  · rw [hfl] at hl
    have hm : Nat.min 8 d.n = d.n := Nat.min_eq_right hn
    simp [Builtin.copy_, run_underlying Try.underlying29, Builtin.lenOf, Builtin.firstCells, sizeOf, typeInfo, *]
  · have hx := lsM_cells d.m d.n i hi
    have hR' : ∀ j, j < d.n * 2 → R[j]? = ((lsM d.m d.n).flatMap mcs)[j]? := fun j hj => by
      rw [hR]
      simp only [Nat.add_zero, List.take_zero, List.nil_append, List.getElem?_toArray]
      rw [List.getElem?_append_left (by rw [hfl]; exact hj)]
    exact ⟨(hR' _ (by omega)).trans hx.1, (hR' _ (by omega)).trans hx.2⟩
/-- What All tells: a row of its own. -/
theorem all_any {p : Nat} {d : VD} {w : World} (h : Vw p d w) :
    Calls Try.prog 16 #[.pointer (some ⟨p, 0, none⟩)] w fun e w' => e = .returned (.slice (some ⟨w.heap.size, 0, none⟩) d.n d.n) ∧ MRow w.heap.size d.n d.m w' ∧ Off (fun _ => False) w w' := by
  have HV : Hid _ := h
  have c0 := h.c0
  have hn := h.n8
  have hmk := makeM d.n (by omega)
  clear h
  have HC : Hid (∀ (w : World) (g : Nat) (cur : Array Value) (ty : TypeId), Vw p d w → Cel g 46 cur w → cur.size = d.n * 2 → ∃ w', (Builtin.copy_ #[29, 29] ty #[.slice (some ⟨g, 0, none⟩) d.n d.n, .slice (some ⟨p, 2, none⟩) 8 8]).run Try.prog w = .ok (goInt d.n) w' ∧ MRow g d.n d.m w' ∧ Off (fun c => c = g) w w') := fun w g cur ty h hg hc => copy_view h hg hc ty
  go_enter Try.func16, Try.ntmps16
  go_upto_region 4 with fail
  generalize hW : w.alloc (.cells (madeM d.n) 46) = W
  have HO : Hid (Off (fun _ => False) w W) := by rw [← hW]; exact (Off.refl _ w).alloc _
  have HG : Hid (Cel w.heap.size 46 (madeM d.n) W) := by rw [← hW]; exact Cel.new w _ _
  have HVW : Hid (Vw p d W) := HV.out.off HO.out (fun h => h)
  clear hW
  obtain ⟨w2, hr, mr, o2⟩ := HC.out W w.heap.size (madeM d.n) 3 HVW.out HG.out (madeM_size _)
  have HMR : Hid _ := mr
  have HF : Hid (Off (fun _ => False) w w2) := ⟨o2.os.trans HO.out.os, o2.tape.trans HO.out.tape, o2.output.trans HO.out.output, Nat.le_trans HO.out.size o2.size, fun k hk _ => (o2.block k (Nat.lt_of_lt_of_le hk HO.out.size) (by omega)).trans (HO.out.block k hk (fun h => h))⟩
  clear mr o2
  go_wp2_with fail
  go_ret
  exact ⟨rfl, HMR.out, HF.out⟩
theorem all_nil (w : World) : Calls Try.prog 16 #[.pointer none] w fun e w' => e = .returned (.slice none 0 0) ∧ w' = w := by
  go_enter Try.func16, Try.ntmps16
  go_wp2_with fail
  go_ret
  exact ⟨rfl, rfl⟩
end Go.Proofs.Ytakijikehpblfaa
