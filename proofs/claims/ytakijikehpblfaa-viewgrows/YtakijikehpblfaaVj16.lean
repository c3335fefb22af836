/- The program's Join. -/
import Derived.Test.YtakijikehpblfaaVs16
import Derived.Test.YtakijikehpblfaaMg16
namespace Go.Proofs.Ytakijikehpblfaa
set_option maxRecDepth 100000
open Go.RowKit

/-- What is to be held of i, once x was told of it. -/
def joiD (d : VD) (i : Nat) (x : Mb) : Mb := if i = d.self then (rfS (d.m i).1 (d.m i).2 x.1 x.2, rfI (d.m i).1 (d.m i).2 x.1 x.2) else jn (d.m i) x
set_option maxHeartbeats 1000000 in
theorem joined_any {p : Nat} {d : VD} {i : Nat} (hi : i < d.n) (x : Mb) {w : World} (h : Vw p d w) :
    Calls Try.prog 34 #[.pointer (some ⟨p, 0, none⟩), .int .i64 (i : Int), .agg #[.int .i64 x.1, .int .i64 x.2]] w fun e w' => e = .returned (.agg #[.int .i64 (joiD d i x).1, .int .i64 (joiD d i x).2]) ∧ Off (fun _ => False) w w' := by
  have HV : Hid _ := h
  have hn := h.n8
  have hi8 : (i : Int) < 8 := by omega
  have x0 := h.m0 hi
  have x1 := h.m1 hi
  have c1 := h.c1
  have hlt := h.lt
  clear h
  by_cases hs : i = d.self
  · have HJ : Hid (joiD d i x = (rfS (d.m i).1 (d.m i).2 x.1 x.2, rfI (d.m i).1 (d.m i).2 x.1 x.2)) := if_pos hs
    have HC : Hid _ := refute_any (d.m i).1 (d.m i).2 x.1 x.2
    rw [← hs] at c1
    rw [HJ.out]
    have HS : Hid _ := hs
    clear hs HJ
    generalize rfS (d.m i).1 (d.m i).2 x.1 x.2 = a at *
    generalize rfI (d.m i).1 (d.m i).2 x.1 x.2 = b at *
    generalize rfB (d.m i).1 (d.m i).2 x.1 x.2 = c at *
    generalize (d.m i).1 = s at *
    generalize (d.m i).2 = y at *
    obtain ⟨xs, xi⟩ := x
    simp only at HC ⊢
    go_enter Try.func34, Try.ntmps34
    go_upto_region 2 with fail
    generalize hW : ((w.alloc (.cells #[.int .i64 xs, .int .i64 xi] 46)).alloc (.cells #[.int .i64 0, .int .i64 0] 46)).alloc (.cells #[.int .i64 s, .int .i64 y] 46) = W
    have HO : Hid (Off (fun _ => False) w W) := by rw [← hW]; exact (((Off.refl _ w).alloc _).alloc _).alloc _
    have HB5 : Hid (Cel w.heap.size 46 #[.int .i64 xs, .int .i64 xi] W) := by rw [← hW]; exact ((Cel.new w _ _).alloc _).alloc _
    have HB6 : Hid (Cel (w.heap.size + 1) 46 #[.int .i64 0, .int .i64 0] W) := by rw [← hW]; exact (Cel.new1 w _ _ _).alloc _
    have HB7 : Hid (Cel (w.heap.size + 1 + 1) 46 #[.int .i64 s, .int .i64 y] W) := by rw [← hW]; exact Cel.new2 w _ _ _ _
    clear hW x0 x1 hlt
    replace c1 : W.cell? ⟨p, 1, none⟩ = _ := (HV.out.off HO.out (fun h => h)).c1
    have b0 : W.cell? ⟨w.heap.size, 0, none⟩ = some (.int .i64 xs) := HB5.out.cell 0
    have b1 : W.cell? ⟨w.heap.size, 1, none⟩ = some (.int .i64 xi) := HB5.out.cell 1
    have b2 : W.cell? ⟨w.heap.size + 1 + 1, 0, none⟩ = some (.int .i64 s) := HB7.out.cell 0
    have b3 : W.cell? ⟨w.heap.size + 1 + 1, 1, none⟩ = some (.int .i64 y) := HB7.out.cell 1
    rw [← HS.out] at c1
    go_wp2_with fail
    refine Calls.mono (HC.out W) ?_
    rintro e w2 ⟨rfl, o2⟩
    have HO2 : Hid (Off (fun _ => False) w w2) := HO.out.trans o2 (fun _ _ h => h)
    have HC6 : Hid _ := HB6.out.off o2 (fun h => h)
    have d0 : w2.cell? ⟨w.heap.size + 1, 0, none⟩ = some (.int .i64 0) := HC6.out.cell 0
    have d1 : w2.cell? ⟨w.heap.size + 1, 1, none⟩ = some (.int .i64 0) := HC6.out.cell 1
    have fr := HC6.out.free
    have hsz := o2.size
    have hb6 := HC6.out.lt
    clear o2 b0 b1 b2 b3 c1
    go_upto_region 4 with fail
    generalize hV : w2.alloc (.cells #[.int .i64 a, .int .i64 b] 46) = V
    have HOV : Hid (Off (fun _ => False) w2 V) := by rw [← hV]; exact (Off.refl _ w2).alloc _
    have HC6V : Hid _ := HC6.out.off HOV.out (fun h => h)
    have HB8 : Hid (Cel w2.heap.size 46 #[.int .i64 a, .int .i64 b] V) := by rw [← hV]; exact Cel.new w2 _ _
    clear hV d0 d1 fr
    have fr := HC6V.out.free
    have d0 : V.cell? ⟨w.heap.size + 1, 0, none⟩ = some (.int .i64 0) := HC6V.out.cell 0
    have d1 : V.cell? ⟨w.heap.size + 1, 1, none⟩ = some (.int .i64 0) := HC6V.out.cell 1
    have d2 : V.cell? ⟨w2.heap.size, 0, none⟩ = some (.int .i64 a) := HB8.out.cell 0
    have d3 : V.cell? ⟨w2.heap.size, 1, none⟩ = some (.int .i64 b) := HB8.out.cell 1
    go_wp2_with fail
    refine bodyPost_ret (results_mem rfl rfl (HC6V.out.st2 _ _)) rfl ?_
    exact ⟨rfl, (HO2.out.trans HOV.out (fun _ _ h => h)).st2 (.inr (by omega)) _ _⟩
  · have HJ : Hid (joiD d i x = (jS (d.m i).1 (d.m i).2 x.1 x.2, jI (d.m i).1 (d.m i).2 x.1 x.2)) := if_neg hs
    have HC : Hid _ := join_any (d.m i).1 (d.m i).2 x.1 x.2
    have e0 : (i : Int) ≠ (d.self : Int) := by omega
    rw [HJ.out]
    have HS : Hid _ := hs
    clear hs HJ
    generalize jS (d.m i).1 (d.m i).2 x.1 x.2 = a at *
    generalize jI (d.m i).1 (d.m i).2 x.1 x.2 = b at *
    generalize (d.m i).1 = s at *
    generalize (d.m i).2 = y at *
    obtain ⟨xs, xi⟩ := x
    simp only at HC ⊢
    go_enter Try.func34, Try.ntmps34
    go_upto_region 2 with fail
    generalize hW : ((w.alloc (.cells #[.int .i64 xs, .int .i64 xi] 46)).alloc (.cells #[.int .i64 0, .int .i64 0] 46)).alloc (.cells #[.int .i64 s, .int .i64 y] 46) = W
    have HO : Hid (Off (fun _ => False) w W) := by rw [← hW]; exact (((Off.refl _ w).alloc _).alloc _).alloc _
    have HB5 : Hid (Cel w.heap.size 46 #[.int .i64 xs, .int .i64 xi] W) := by rw [← hW]; exact ((Cel.new w _ _).alloc _).alloc _
    have HB6 : Hid (Cel (w.heap.size + 1) 46 #[.int .i64 0, .int .i64 0] W) := by rw [← hW]; exact (Cel.new1 w _ _ _).alloc _
    have HB7 : Hid (Cel (w.heap.size + 1 + 1) 46 #[.int .i64 s, .int .i64 y] W) := by rw [← hW]; exact Cel.new2 w _ _ _ _
    clear hW x0 x1 hlt
    replace c1 : W.cell? ⟨p, 1, none⟩ = _ := (HV.out.off HO.out (fun h => h)).c1
    have b0 : W.cell? ⟨w.heap.size, 0, none⟩ = some (.int .i64 xs) := HB5.out.cell 0
    have b1 : W.cell? ⟨w.heap.size, 1, none⟩ = some (.int .i64 xi) := HB5.out.cell 1
    have b2 : W.cell? ⟨w.heap.size + 1 + 1, 0, none⟩ = some (.int .i64 s) := HB7.out.cell 0
    have b3 : W.cell? ⟨w.heap.size + 1 + 1, 1, none⟩ = some (.int .i64 y) := HB7.out.cell 1
    go_wp2_with fail
    refine Calls.mono (HC.out W) ?_
    rintro e w2 ⟨rfl, o2⟩
    have HO2 : Hid (Off (fun _ => False) w w2) := HO.out.trans o2 (fun _ _ h => h)
    have HC6 : Hid _ := HB6.out.off o2 (fun h => h)
    have d0 : w2.cell? ⟨w.heap.size + 1, 0, none⟩ = some (.int .i64 0) := HC6.out.cell 0
    have d1 : w2.cell? ⟨w.heap.size + 1, 1, none⟩ = some (.int .i64 0) := HC6.out.cell 1
    have fr := HC6.out.free
    have hsz := o2.size
    have hb6 := HC6.out.lt
    clear o2 b0 b1 b2 b3 c1
    go_wp2_with fail
    refine bodyPost_ret (results_mem rfl rfl (HC6.out.st2 _ _)) rfl ?_
    exact ⟨rfl, HO2.out.st2 (.inr (by omega)) _ _⟩
end Go.Proofs.Ytakijikehpblfaa
