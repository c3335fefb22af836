/- What All tells. -/
import Derived.Test.YtakijikehpblfaaVk16
import Derived.Test.YtakijikehpblfaaIr16
import Derived.Laws.CopyRow
namespace Go.Proofs.Ytakijikehpblfaa
set_option maxRecDepth 100000
open Go.RowKit

theorem off_setRow {w : World} {g : Nat} (cs : Array Value) : Off (fun c => c = g) w (w.setRow g cs) :=
  ⟨rfl, rfl, rfl, by simp, fun k _ hk => setRow_other w g k cs hk⟩
theorem Cel.setRow {w : World} {g : Nat} {t : TypeId} {cur : Array Value} (h : Cel g t cur w) (cs : Array Value) : Cel g t cs (w.setRow g cs) := ⟨setRow_heap w g cur cs t _ h.is⟩
theorem lsM_cells (f : Nat → Mb) (n : Nat) : ∀ i, i < n → ((lsM f n).flatMap mcs)[i * 2]? = some (.int .i64 (f i).1) ∧ ((lsM f n).flatMap mcs)[i * 2 + 1]? = some (.int .i64 (f i).2) := fun _ hi =>
  ⟨flat_get mcs_len (lsM_get f hi) (j := 0) rfl, flat_get mcs_len (lsM_get f hi) (j := 1) rfl⟩
theorem lsM_flat (f : Nat → Mb) (n : Nat) : ((lsM f n).flatMap mcs).length = n * 2 := by
  have : ∀ l : List Mb, (l.flatMap mcs).length = l.length * 2 := fun l => by
    induction l with
    | nil => rfl
    | cons x l ih => rw [List.flatMap_cons, List.length_append, ih, mcs_len, List.length_cons]; omega
  rw [this, lsM_len]
/-- 'copy' of the members of a view into a row that was made. -/
theorem copy_view {p : Nat} {d : VD} {w : World} (h : Vw p d w) {g : Nat} {cur : Array Value} (hg : Cel g 46 cur w) (hc : cur.size = d.n * 2) (ty : TypeId) :
    ∃ w', (Builtin.copy_ #[29, 29] ty #[.slice (some ⟨g, 0, none⟩) d.n d.n, .slice (some ⟨p, 2, none⟩) 8 8]).run Try.prog w = .ok (goInt d.n) w' ∧ MRow g d.n d.m w' ∧ Off (fun c => c = g) w w' := by
  obtain ⟨i0, hi, hz0, hz1, hz2⟩ := info_parts Try.infoM
  have hn := h.n8
  have hfl := lsM_flat d.m d.n
  have hsrc : ∀ j v, ((lsM d.m d.n).flatMap mcs)[j]? = some v → w.cell? ((⟨p, 2, none⟩ : Addr).add j) = some v := fun j v hj => by
    have hjl : j < d.n * 2 := by
      obtain ⟨h, -⟩ := List.getElem?_eq_some_iff.1 hj
      omega
    rw [add_lit]
    have hx := lsM_cells d.m d.n (j / 2) (by omega)
    rcases Nat.mod_two_eq_zero_or_one j with e | e
    · have e2 : j = j / 2 * 2 := by omega
      rw [e2, hx.1] at hj
      rw [e2, h.m0 (by omega), hj]
    · have e2 : j = j / 2 * 2 + 1 := by omega
      rw [e2, hx.2] at hj
      rw [e2, ← Nat.add_assoc, h.m1 (by omega), hj]
  have hl := run_loadCells_list (P := Try.prog) w ⟨p, 2, none⟩ _ hsrc
  have h1 : ∀ v ∈ (lsM d.m d.n).flatMap mcs, v.oneCell' = true := fun v hv => by
    obtain ⟨x, -, hx⟩ := List.mem_flatMap.1 hv
    exact mcs_one x v hx
  have hst := run_storeCells_at Try.prog g 0 46 ((lsM d.m d.n).flatMap mcs) 0 cur w hg.is (by omega) h1
  obtain ⟨R, hR⟩ : ∃ R : Array Value, R = (List.take (0 + 0) cur.toList ++ List.flatMap mcs (lsM d.m d.n) ++ List.drop (0 + 0 + (List.flatMap mcs (lsM d.m d.n)).length) cur.toList).toArray := ⟨_, rfl⟩
  rw [← hR] at hst
  refine ⟨w.setRow g R, ?_, ⟨R, hg.setRow R, fun i hi => ?_⟩, off_setRow R⟩
  · rw [hfl] at hl
    have hm : Nat.min 8 d.n = d.n := Nat.min_eq_right hn
    simp [Builtin.copy_, run_underlying Try.underlying29, Builtin.lenOf, Builtin.firstCells, sizeOf, typeInfo, *]
  · have hx := lsM_cells d.m d.n i hi
    have hR' : ∀ j, j < d.n * 2 → R[j]? = ((lsM d.m d.n).flatMap mcs)[j]? := fun j hj => by
      rw [hR]
      simp only [Nat.add_zero, List.take_zero, List.nil_append, List.getElem?_toArray]
      rw [List.getElem?_append_left (by rw [hfl]; exact hj)]
    exact ⟨(hR' _ (by omega)).trans hx.1, (hR' _ (by omega)).trans hx.2⟩
/-- What All tells: a row of its own. -/
theorem all_any {p : Nat} {d : VD} {w : World} (h : Vw p d w) :
    Calls Try.prog 16 #[.pointer (some ⟨p, 0, none⟩)] w fun e w' => e = .returned (.slice (some ⟨w.heap.size, 0, none⟩) d.n d.n) ∧ MRow w.heap.size d.n d.m w' ∧ Off (fun _ => False) w w' := by
  have HV : Hid _ := h
  have c0 := h.c0
  have hn := h.n8
  have hmk := makeM d.n (by omega)
  clear h
  have HC : Hid (∀ (w : World) (g : Nat) (cur : Array Value) (ty : TypeId), Vw p d w → Cel g 46 cur w → cur.size = d.n * 2 → ∃ w', (Builtin.copy_ #[29, 29] ty #[.slice (some ⟨g, 0, none⟩) d.n d.n, .slice (some ⟨p, 2, none⟩) 8 8]).run Try.prog w = .ok (goInt d.n) w' ∧ MRow g d.n d.m w' ∧ Off (fun c => c = g) w w') := fun w g cur ty h hg hc => copy_view h hg hc ty
  go_enter Try.func16, Try.ntmps16
  go_upto_region 4 with fail
  generalize hW : w.alloc (.cells (madeM d.n) 46) = W
  have HO : Hid (Off (fun _ => False) w W) := by rw [← hW]; exact (Off.refl _ w).alloc _
  have HG : Hid (Cel w.heap.size 46 (madeM d.n) W) := by rw [← hW]; exact Cel.new w _ _
  have HVW : Hid (Vw p d W) := HV.out.off HO.out (fun h => h)
  clear hW
  obtain ⟨w2, hr, mr, o2⟩ := HC.out W w.heap.size (madeM d.n) 3 HVW.out HG.out (madeM_size _)
  have HMR : Hid _ := mr
  have HF : Hid (Off (fun _ => False) w w2) := ⟨o2.os.trans HO.out.os, o2.tape.trans HO.out.tape, o2.output.trans HO.out.output, Nat.le_trans HO.out.size o2.size, fun k hk _ => (o2.block k (Nat.lt_of_lt_of_le hk HO.out.size) (by omega)).trans (HO.out.block k hk (fun h => h))⟩
  clear mr o2
  go_wp2_with fail
  go_ret
  exact ⟨rfl, HMR.out, HF.out⟩
theorem all_nil (w : World) : Calls Try.prog 16 #[.pointer none] w fun e w' => e = .returned (.slice none 0 0) ∧ w' = w := by
  go_enter Try.func16, Try.ntmps16
  go_wp2_with fail
  go_ret
  exact ⟨rfl, rfl⟩
end Go.Proofs.Ytakijikehpblfaa
