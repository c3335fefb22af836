/- Items of several texts. -/
import Derived.Test.YtpnnpdfmoldiiaaDRefA
import Derived.Test.YtpnnpdfmoldiiaaDSRead
namespace Go.Proofs.Ytpnnpdfmoldiiaa
open Go.RowKit
theorem results_dot1 {fn : Func} {p : Tmp} (h : fn.results = #[.cell p 81]) {tmps : Array Value} {w : World} {b : Nat} {x y : Int} (hp : tmps.getD p undef = .pointer (some ⟨b, 0, none⟩)) (hc : Cel b 81 #[.int .i64 x, .int .i64 y] w) :
  (results fn tmps).run Try.prog w = .ok (.agg #[.int .i64 x, .int .i64 y]) w := by
 obtain ⟨d, hd⟩ : ∃ d, Try.prog.underlying 81 = some (.struct d) := ⟨_, Try.underlying81⟩
 exact results_cell_row h tmps w b 81 _ (0, 0) (.struct d) hp hc.is hd rfl (by kernel_rfl)
set_option maxRecDepth 100000 in
set_option maxHeartbeats 1000000 in
theorem gdot_any {D : Nat → Prop} {b : Nat} {s : RS} {w : World} (hR : Rdr 61 D b s w) :
  Calls Try.prog 79 #[.pointer (some ⟨b, 0, none⟩)] w fun e w' => e = .returned (.agg #[.int .i64 (nodeR (numS s).1), .int .i64 (intS (numS s).2).1]) ∧ Rdr 61 D b (intS (numS s).2).2 w' ∧ Off (fun c => c = b) w w' := by
 have HB : Hid (b < w.heap.size) := hR.here
 have HLD : Hid (∀ c, D c → c < w.heap.size) := hR.lt
 obtain ⟨n, hn⟩ : ∃ x, x = (numS s).1 := ⟨_, rfl⟩
 obtain ⟨s1, hs1⟩ : ∃ x, x = (numS s).2 := ⟨_, rfl⟩
 obtain ⟨i, hi⟩ : ∃ x, x = (intS s1).1 := ⟨_, rfl⟩
 obtain ⟨s2, hs2⟩ : ∃ x, x = (intS s1).2 := ⟨_, rfl⟩
 obtain ⟨nd, hnd⟩ : ∃ x, x = nodeR n := ⟨_, rfl⟩
 have HE1 : Hid (numS s = (n, s1)) := by show _ = _; rw [hn, hs1]
 have HE2 : Hid (intS s1 = (i, s2)) := by show _ = _; rw [hi, hs2]
 rw [← hn, ← hs1, ← hi, ← hs2, ← hnd]
 have hmin : ∀ ts t W, (Builtin.min_ ts t #[.int .u64 (n : Int), .int .u64 1073741824]).run Try.prog W = .ok (.int .u64 nd) W := fun ts t W => by
  rw [run_min_int2]
  congr 2
  rw [hnd]
  unfold nodeR
  split <;> omega
 have hndr : 0 ≤ nd ∧ nd ≤ 1073741824 := by rw [hnd]; unfold nodeR; omega
 obtain ⟨hnd0, hnd1⟩ := hndr
 clear hn hs1 hi hs2 hnd
 have C2 := Cel.new w 81 #[.int .i64 0, .int .i64 0]
 have O : Off (fun _ => False) w (w.alloc (.cells #[.int .i64 0, .int .i64 0] 81)) := (Off.refl _ w).alloc _
 have R0 := hR.off O (fun h => h) (fun _ _ _ h => h)
 clear hR
 go_enter Try.func79, Try.ntmps79
 go_upto_region 1 with fail
 generalize hq : w.heap.size = q2 at C2 ⊢
 have HQ2 : Hid (w.heap.size ≤ q2) := by show _ ≤ _; omega
 generalize hv : w.alloc (.cells #[.int .i64 0, .int .i64 0] 81) = W at C2 O R0 ⊢
 clear hq hv
 go_wp2_with fail
 refine (frnum_any R0).mono ?_
 rw [HE1.out]
 dsimp only
 rintro e v1 ⟨rfl, R1, o1⟩
 replace C2 := C2.off o1 (fun e => by have := HB.out; have := HQ2.out; omega)
 have O1 : Off (fun c => c = b) w v1 := (O.mono (fun _ _ h => h.elim)).trans o1 (fun _ _ h => h)
 clear R0 o1 O
 go_wp2_with fail
 refine (frint_any R1).mono ?_
 rw [HE2.out]
 dsimp only
 rintro e v2 ⟨rfl, R2, o1⟩
 replace C2 := C2.off o1 (fun e => by have := HB.out; have := HQ2.out; omega)
 have O2 := O1.trans o1 (fun _ _ h => h)
 clear R1 o1 O1
 go_upto_region 3 with fail
 have C4 := Cel.new v2 81 #[.int .i64 nd, .int .i64 i]
 have OA : Off (fun _ => False) v2 (v2.alloc (.cells #[.int .i64 nd, .int .i64 i] 81)) := (Off.refl _ v2).alloc _
 have hl2 := C2.lt
 generalize hq : v2.heap.size = q4 at C4 hl2 ⊢
 generalize hv : v2.alloc (.cells #[.int .i64 nd, .int .i64 i] 81) = v3 at C4 OA ⊢
 clear hq hv
 replace C2 := C2.off OA (fun h => h)
 have O3 := O2.trans (OA.mono (fun _ _ h => h.elim)) (fun _ _ h => h)
 have R3 := R2.off OA (fun h => h) (fun _ _ _ h => h)
 obtain ⟨x0, x1⟩ := cel2 C4
 obtain ⟨y0, y1⟩ := cel2 C2
 have fz := C2.free
 have HC2 : Hid _ := C2
 have HR3 : Hid _ := R3
 have HO3 : Hid _ := O3
 clear C2 C4 R2 R3 OA O2 O3 hl2 hmin
 go_wp2_with fail
 have E1 := (HC2.out.set 0 (.int .i64 nd))
 simp only [List.setIfInBounds_toArray, List.set_cons_zero] at E1
 have E2 := E1.set 1 (.int .i64 i)
 simp only [lsA, lsZ, lsS] at E2
 refine bodyPost_ret (results_dot1 rfl rfl E2) rfl ?_
 have os := ((Off.refl (fun c => c = q2) v3).setCell (p := ⟨q2, 0, none⟩) (.inl rfl) (.int .i64 nd)).setCell (p := ⟨q2, 1, none⟩) (.inl rfl) (.int .i64 i)
 exact ⟨rfl, HR3.out.off os (fun e => by have := HQ2.out; have := HB.out; omega) (fun c _ hc e => by have := HLD.out c hc; have := HQ2.out; omega), (HO3.out.setCell (p := ⟨q2, 0, none⟩) (.inr HQ2.out) _).setCell (p := ⟨q2, 1, none⟩) (.inr HQ2.out) _⟩
end Go.Proofs.Ytpnnpdfmoldiiaa
