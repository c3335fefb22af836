/- Items of several texts. -/
import Derived.Deep.Slices
import Derived.Test.YtmjmgdbhmbjmaaaACo22
import Derived.Test.YtmjmgdbhmbjmaaaAArg5
namespace Go.Proofs.Ytmjmgdbhmbjmaaa
set_option maxRecDepth 100000
open Go.ChangeShapes Go.WideShapes Go.ChangeAt Go.RowKit
theorem lst6 {α : Type} (l : List α) (h : l.length = 6) : ∃ y0 y1 y2 y3 y4 y5, l = [y0, y1, y2, y3, y4, y5] := by
 match l, h with
 | [y0, y1, y2, y3, y4, y5], _ => exact ⟨y0, y1, y2, y3, y4, y5, rfl⟩
theorem lst9 {α : Type} (l : List α) (h : l.length = 9) : ∃ y0 y1 y2 y3 y4 y5 y6 y7 y8, l = [y0, y1, y2, y3, y4, y5, y6, y7, y8] := by
 match l, h with
 | [y0, y1, y2, y3, y4, y5, y6, y7, y8], _ => exact ⟨y0, y1, y2, y3, y4, y5, y6, y7, y8, rfl⟩
theorem lst14 {α : Type} (l : List α) (h : l.length = 14) : ∃ y0 y1 y2 y3 y4 y5 y6 y7 y8 y9 y10 y11 y12 y13, l = [y0, y1, y2, y3, y4, y5, y6, y7, y8, y9, y10, y11, y12, y13] := by
 match l, h with
 | [y0, y1, y2, y3, y4, y5, y6, y7, y8, y9, y10, y11, y12, y13], _ => exact ⟨y0, y1, y2, y3, y4, y5, y6, y7, y8, y9, y10, y11, y12, y13, rfl⟩
theorem wfI22 {n : Int} (h : (Lit.int .i64 n).wf = true) : -9223372036854775808 ≤ n ∧ n ≤ 9223372036854775807 := by
 simp [Lit.wf] at h
 exact h
def nrm8 (f : Nat → Int) : Nat → Int := fun j => if j < 8 then f j else 0
theorem nrm8_ok (f : Nat → Int) : Nrm (nrm8 f) := fun j hj => by unfold nrm8; rw [if_neg (by omega)]
structure Cll where
 d : Int
 self : Int
 need : Int
 op : Int
 key : ByteArray
 s : SV
def ccs (c : Cll) : List Value := [.int .i64 c.d, .int .i64 c.self, .int .i64 c.need, .int .i64 c.op, .string c.key, .int .i64 (c.s.f 0), .int .i64 (c.s.f 1), .int .i64 (c.s.f 2), .int .i64 (c.s.f 3), .int .i64 (c.s.f 4), .int .i64 (c.s.f 5), .int .i64 (c.s.f 6), .int .i64 (c.s.f 7), .slice c.s.a c.s.l.length c.s.cap]
structure COk (w : World) (c : Cll) : Prop where
 row : Row w c.s.a c.s.cap c.s.l
 nrm : Nrm c.s.f
 num : (-9223372036854775808 ≤ c.d ∧ c.d ≤ 9223372036854775807) ∧ (-9223372036854775808 ≤ c.self ∧ c.self ≤ 9223372036854775807) ∧ (-9223372036854775808 ≤ c.need ∧ c.need ≤ 9223372036854775807) ∧ (-9223372036854775808 ≤ c.op ∧ c.op ≤ 9223372036854775807)
 key : c.key.size ≤ maxLen
structure SvOk (w : World) (s : SV) : Prop where
 row : Row w s.a s.cap s.l
 nrm : Nrm s.f
theorem cellsCa : Try.prog.cellsOf 35 = 14 := by kernel_rfl
theorem celz9 : Try.prog.cellsOf 9 = 1 := by kernel_rfl
theorem fieldsCall : ∃ f0 f1 f2 f3 f4 f5 : Field, Try.prog.underlying 35 = some (.struct #[f0, f1, f2, f3, f4, f5]) ∧ (f0.offset = 0 ∧ f0.type = 3) ∧ (f1.offset = 1 ∧ f1.type = 3) ∧ (f2.offset = 2 ∧ f2.type = 3) ∧ (f3.offset = 3 ∧ f3.type = 2) ∧ (f4.offset = 4 ∧ f4.type = 9) ∧ (f5.offset = 5 ∧ f5.type = 33) :=
 ⟨_, _, _, _, _, _, Try.underlying35, ⟨rfl, rfl⟩, ⟨rfl, rfl⟩, ⟨rfl, rfl⟩, ⟨rfl, rfl⟩, ⟨rfl, rfl⟩, ⟨rfl, rfl⟩⟩
section
variable {HH : Type} {enc : TypeId × Value → HH}
set_option maxRecDepth 100000 in
theorem sib_cells22 {W : World} {fuel : Nat} {c0 c1 c2 c3 c4 c5 c6 c7 c8 : Value} {d : DataW HH} {pl : List MemPlace}
  (hf : DataW.trod enc Try.prog W 0 (fun _ => true) true fuel 33 [c0, c1, c2, c3, c4, c5, c6, c7, c8] = some (d, pl)) (hz : ∀ n ∈ d.weights Try.prog 33, n ≤ reachBytes) :
  ∃ (f : Nat → Int) (a : Option Addr) (cap : Nat) (l : List V), [c0, c1, c2, c3, c4, c5, c6, c7, c8] = (#[.int .i64 (f 0), .int .i64 (f 1), .int .i64 (f 2), .int .i64 (f 3), .int .i64 (f 4), .int .i64 (f 5), .int .i64 (f 6), .int .i64 (f 7), .slice a l.length cap] : Array Value).toList ∧ Row W a cap l := by
 obtain ⟨f0, f1, hu, ⟨o0, t0⟩, ⟨o1, t1⟩⟩ := fieldsSibs
 obtain ⟨xs, m, -, hxy, hvl, hxl, hfl⟩ := DataW.trod_struct hu hf
 obtain ⟨x0, x1, rfl⟩ := list2 xs (by simpa using hxl)
 have g0 := hfl 0 f0 rfl
 have g1 := hfl 1 f1 rfl
 rw [o0, t0, cellsV] at g0
 rw [o1, t1, cellsL] at g1
 simp at g0 g1
 obtain ⟨f, e, hr⟩ := vec_cells g0
 simp only [List.cons.injEq, and_true] at e
 obtain ⟨rfl, rfl, rfl, rfl, rfl, rfl, rfl, rfl⟩ := e
 obtain ⟨a, len, cap, rfl⟩ : ∃ a len cap, c8 = .slice a len cap := by
  rcases Go.Deep.open_slice Try.underlying31 g1 with ⟨hcs, -⟩ | ⟨x, l, c, m, n, D, Pl, hcs, -⟩
  ·simp at hcs; exact ⟨_, _, _, hcs⟩
  ·simp at hcs; exact ⟨_, _, _, hcs⟩
 simp only [Prod.mk.injEq] at hxy
 obtain ⟨rfl, -⟩ := hxy
 obtain ⟨l, rfl, hrow⟩ := row_of g1 (fun n hn => hz n (by
  simp only [DataW.weights, hu]
  exact DataW.weights_mem_each (j := 1) (t := 31) (d := x1.1) (by simp [t1]) rfl _ hn))
 exact ⟨f, a, cap, l, rfl, hrow⟩
theorem vec_nrm (f : Nat → Int) (s : Value) : (#[.int .i64 (f 0), .int .i64 (f 1), .int .i64 (f 2), .int .i64 (f 3), .int .i64 (f 4), .int .i64 (f 5), .int .i64 (f 6), .int .i64 (f 7), s] : Array Value) = #[.int .i64 (nrm8 f 0), .int .i64 (nrm8 f 1), .int .i64 (nrm8 f 2), .int .i64 (nrm8 f 3), .int .i64 (nrm8 f 4), .int .i64 (nrm8 f 5), .int .i64 (nrm8 f 6), .int .i64 (nrm8 f 7), s] := rfl
theorem sv_cells {W : World} {fuel : Nat} {vs : List Value} {d : DataW HH} {pl : List MemPlace}
  (hf : DataW.trod enc Try.prog W 0 (fun _ => true) true fuel 33 vs = some (d, pl)) (hz : ∀ n ∈ d.weights Try.prog 33, n ≤ reachBytes) :
  ∃ s : SV, vs = sv9 s ∧ SvOk W s := by
 obtain ⟨f0, f1, hu, -, -⟩ := fieldsSibs
 obtain ⟨xs, m, -, -, hvl, -, -⟩ := DataW.trod_struct hu hf
 rw [cellsS] at hvl
 obtain ⟨y0, y1, y2, y3, y4, y5, y6, y7, y8, rfl⟩ := lst9 vs hvl
 obtain ⟨f, a, cap, l, e, hr⟩ := sib_cells22 hf hz
 exact ⟨⟨nrm8 f, a, cap, l⟩, e.trans (congrArg Array.toList (vec_nrm f _)), hr, nrm8_ok f⟩
set_option maxRecDepth 100000 in
theorem call_cells {W : World} {fuel : Nat} {vs : List Value} {d : DataW HH} {pl : List MemPlace}
  (hf : DataW.trod enc Try.prog W 0 (fun _ => true) true fuel 35 vs = some (d, pl)) (hz : ∀ n ∈ d.weights Try.prog 35, n ≤ reachBytes) :
  ∃ c : Cll, vs = ccs c ∧ COk W c := by
 obtain ⟨f0, f1, f2, f3, f4, f5, hu, ⟨o0, t0⟩, ⟨o1, t1⟩, ⟨o2, t2⟩, ⟨o3, t3⟩, ⟨o4, t4⟩, ⟨o5, t5⟩⟩ := fieldsCall
 obtain ⟨xs, m, -, hxy, hvl, hxl, hfl⟩ := DataW.trod_struct hu hf
 rw [cellsCa] at hvl
 obtain ⟨y0, y1, y2, y3, y4, y5, y6, y7, y8, y9, y10, y11, y12, y13, rfl⟩ := lst14 vs hvl
 obtain ⟨x0, x1, x2, x3, x4, x5, rfl⟩ := lst6 xs (by simpa using hxl)
 have g0 := hfl 0 f0 rfl
 have g1 := hfl 1 f1 rfl
 have g2 := hfl 2 f2 rfl
 have g3 := hfl 3 f3 rfl
 have g4 := hfl 4 f4 rfl
 have g5 := hfl 5 f5 rfl
 rw [o0, t0, cells3] at g0
 rw [o1, t1, cells3] at g1
 rw [o2, t2, cells3] at g2
 rw [o3, t3, cells2] at g3
 rw [o4, t4, celz9] at g4
 rw [o5, t5, cellsS] at g5
 simp at g0 g1 g2 g3 g4 g5
 obtain ⟨n0, hn0, q0⟩ : ∃ n : Int, y0 = .int .i64 n ∧ (-9223372036854775808 ≤ n ∧ n ≤ 9223372036854775807) := by
  obtain ⟨n, hn, -, q⟩ := DataW.trod_int Try.underlying3 g0
  simp at hn
  exact ⟨n, hn, wfI22 q⟩
 subst hn0
 obtain ⟨n1, hn1, q1⟩ : ∃ n : Int, y1 = .int .i64 n ∧ (-9223372036854775808 ≤ n ∧ n ≤ 9223372036854775807) := by
  obtain ⟨n, hn, -, q⟩ := DataW.trod_int Try.underlying3 g1
  simp at hn
  exact ⟨n, hn, wfI22 q⟩
 subst hn1
 obtain ⟨n2, hn2, q2⟩ : ∃ n : Int, y2 = .int .i64 n ∧ (-9223372036854775808 ≤ n ∧ n ≤ 9223372036854775807) := by
  obtain ⟨n, hn, -, q⟩ := DataW.trod_int Try.underlying3 g2
  simp at hn
  exact ⟨n, hn, wfI22 q⟩
 subst hn2
 obtain ⟨n3, hn3, q3⟩ : ∃ n : Int, y3 = .int .i64 n ∧ (-9223372036854775808 ≤ n ∧ n ≤ 9223372036854775807) := by
  obtain ⟨n, hn, -, q⟩ := DataW.trod_int Try.underlying2 g3
  simp at hn
  exact ⟨n, hn, wfI22 q⟩
 subst hn3
 obtain ⟨s, hs, -, hsz⟩ := DataW.trod_string Try.underlying9 g4
 simp at hs
 subst hs
 simp only [Prod.mk.injEq] at hxy
 obtain ⟨rfl, -⟩ := hxy
 obtain ⟨sv, e6, hok⟩ := sv_cells g5 (fun n hn => hz n (by
  simp only [DataW.weights, hu]
  exact DataW.weights_mem_each (j := 5) (t := 33) (d := x5.1) (by simp [t5]) rfl _ hn))
 have e7 : [y5, y6, y7, y8, y9, y10, y11, y12, y13] = sv9 sv := e6
 unfold sv9 at e7
 simp only [List.cons.injEq, and_true] at e7
 obtain ⟨rfl, rfl, rfl, rfl, rfl, rfl, rfl, rfl, rfl⟩ := e7
 exact ⟨⟨n0, n1, n2, n3, s, sv⟩, rfl, hok.row, hok.nrm, ⟨q0, q1, q2, q3⟩, hsz⟩
set_option maxRecDepth 100000 in
theorem argC1 {W : World} {base fuel : Nat} {v : Value} {d : DataW HH} {pl : List MemPlace}
  (hv : Value.okWide Try.prog W .any base 35 v) (hf : DataW.trod enc Try.prog W 0 (fun _ => true) true fuel 35 v.cells.toList = some (d, pl)) (hz : ∀ n ∈ d.weights Try.prog 35, n ≤ reachBytes) :
  ∃ c : Cll, v = .agg (ccs c).toArray ∧ COk W c := by
 obtain ⟨cs, rfl, hs, hok⟩ : ∃ cs, v = .agg cs ∧ cs.size = Try.prog.cellsOf 35 ∧ Row.okWide Try.prog W .any base 35 cs := by
  simpa [Value.okWide, Try.underlying35] using hv
 obtain ⟨e, h1, h2⟩ := call_cells (vs := cs.toList) hf hz
 refine ⟨e, ?_, h2⟩
 rw [← h1, Array.toArray_toList]
end
end Go.Proofs.Ytmjmgdbhmbjmaaa
