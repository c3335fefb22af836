/- Items of several texts. -/
import Derived.OpenShut
import Derived.ShutString
import Derived.ChangeOld
import Derived.ChangeSame
import Derived.SizedLaws
import Derived.Deep.Slices
import Derived.Lib.SlBytesConst
import Derived.Test.YtmjmgdbhmbjmaabALiv
namespace Go.Proofs.Ytmjmgdbhmbjmaab
open Go.ChangeShapes Go.WideShapes Go.ChangeAt Go.RowKit
def IsRow (k : IntKind) (w : World) (a : Option Addr) (len cap : Nat) (zs : List Int) : Prop :=
 (a = none ∧ len = 0 ∧ cap = 0 ∧ zs = []) ∨
 ∃ x, a = some x ∧ len ≤ cap ∧ cap ≤ maxLen ∧ zs.length = cap ∧ (∀ i, i < zs.length → w.cell? (x.add i) = some (.int k (zs.getD i 0))) ∧ ∀ n ∈ zs, (Lit.int k n).wf = true
theorem IsRow.len {k : IntKind} {w : World} {a : Option Addr} {len cap : Nat} {zs : List Int} (h : IsRow k w a len cap zs) : len ≤ 9223372036854775807 := by
 rcases h with ⟨-, rfl, -⟩ | ⟨x, -, h1, h2, -⟩
 ·omega
 ·unfold maxLen at h2; omega
theorem IsRow.cells {k : IntKind} {w : World} {a : Option Addr} {len cap : Nat} {zs : List Int} (h : IsRow k w a len cap zs) : ∀ i, i < len → ∃ b off, a = some ⟨b, off, none⟩ ∧ b < w.heap.size ∧ w.cell? ⟨b, off + i, none⟩ = some (.int k (zs.getD i 0)) := by
 intro i hi
 rcases h with ⟨-, rfl, -⟩ | ⟨x, rfl, h1, h2, h3, h4, h5⟩
 ·omega
 ·obtain ⟨b, off, rfl, hc⟩ := ints_at h4 (by omega)
  exact ⟨b, off, rfl, cell_lt (hc i (by omega)), hc i (by omega)⟩
def bytesOf (zs : List Int) (i : Nat) : Nat := (zs.getD i 0).toNat
theorem IsRow.bytes {w : World} {a : Option Addr} {len cap : Nat} {zs : List Int} (h : IsRow .u8 w a len cap zs) : ∀ i, i < len → bytesOf zs i < 256 ∧ ∃ b off, a = some ⟨b, off, none⟩ ∧ b < w.heap.size ∧ w.cell? ⟨b, off + i, none⟩ = some (.int .u8 (bytesOf zs i : Int)) := by
 intro i hi
 obtain ⟨b, off, h1, h2, h3⟩ := h.cells i hi
 have hw : (Lit.int .u8 (zs.getD i 0)).wf = true := by
  rcases h with ⟨-, rfl, -⟩ | ⟨x, -, h1, -, h3, -, h5⟩
  ·omega
  ·have hlt : i < zs.length := by omega
   have : zs.getD i 0 = zs[i] := by simp [hlt]
   rw [this]
   exact h5 _ (List.getElem_mem hlt)
 have hb : 0 ≤ zs.getD i 0 ∧ zs.getD i 0 ≤ 255 := by
  simp only [Lit.wf, Bool.and_eq_true, decide_eq_true_eq] at hw
  exact hw
 refine ⟨by unfold bytesOf; omega, b, off, h1, h2, ?_⟩
 rw [h3]
 congr 2
 unfold bytesOf
 omega
theorem cellsV : Try.prog.cellsOf 27 = 8 := by kernel_rfl
theorem cellsD : Try.prog.cellsOf 53 = 2 := by kernel_rfl
theorem cells2 : Try.prog.cellsOf 2 = 1 := by kernel_rfl
theorem cells3 : Try.prog.cellsOf 3 = 1 := by kernel_rfl
theorem list2 {α : Type} (l : List α) (h : (⟨l⟩ : Array α).size = 2) : ∃ a b, l = [a, b] := by
 match l, h with
 | [a, b], _ => exact ⟨a, b, rfl⟩
def fn8 (a b c d e f g i : Int) : Nat → Int
 | 0 => a
 | 1 => b
 | 2 => c
 | 3 => d
 | 4 => e
 | 5 => f
 | 6 => g
 | _ => i
theorem wfI {n : Int} (h : (Lit.int .i64 n).wf = true) : -9223372036854775808 ≤ n ∧ n ≤ 9223372036854775807 := by
 simp [Lit.wf] at h
 exact h
theorem list3 {α : Type} (l : List α) (h : l.length = 3) : ∃ a b c, l = [a, b, c] := by
 match l, h with
 | [a, b, c], _ => exact ⟨a, b, c, rfl⟩
theorem list4 {α : Type} (l : List α) (h : l.length = 4) : ∃ a b c d, l = [a, b, c, d] := by
 match l, h with
 | [a, b, c, d], _ => exact ⟨a, b, c, d, rfl⟩
theorem cellsS : Try.prog.cellsOf 30 = 9 := by kernel_rfl
theorem cellsW : Try.prog.cellsOf 56 = 4 := by kernel_rfl
theorem cellsL : Try.prog.cellsOf 28 = 1 := by kernel_rfl
theorem cellsB : Try.prog.cellsOf 54 = 1 := by kernel_rfl
theorem cells4 : Try.prog.cellsOf 4 = 1 := by kernel_rfl
theorem bytesB : Try.prog.bytesOf 5 = 1 := by kernel_rfl
theorem fieldsVal : ∃ f0 f1 f2 : Field, Try.prog.underlying 56 = some (.struct #[f0, f1, f2]) ∧ (f0.offset = 0 ∧ f0.type = 53) ∧ (f1.offset = 2 ∧ f1.type = 54) ∧ (f2.offset = 3 ∧ f2.type = 4) :=
 ⟨_, _, _, Try.underlying56, ⟨rfl, rfl⟩, ⟨rfl, rfl⟩, ⟨rfl, rfl⟩⟩
theorem fieldsSibs : ∃ f0 f1 : Field, Try.prog.underlying 30 = some (.struct #[f0, f1]) ∧ (f0.offset = 0 ∧ f0.type = 27) ∧ (f1.offset = 8 ∧ f1.type = 28) :=
 ⟨_, _, Try.underlying30, ⟨rfl, rfl⟩, ⟨rfl, rfl⟩⟩
section
variable {H : Type} {enc : TypeId × Value → H}
theorem isRow_src {w : World} {a : Option Addr} {len cap : Nat} {zs : List Int} (h : IsRow .u8 w a len cap zs) : ∃ bs : List Nat, bs.length = len ∧ (∀ b ∈ bs, b < 256) ∧ Src w a cap bs := by
 refine ⟨(List.range len).map (bytesOf zs), by simp, ?_, ⟨?_⟩⟩
 ·intro b hb
  simp only [List.mem_map, List.mem_range] at hb
  obtain ⟨i, hi, rfl⟩ := hb
  exact (h.bytes i hi).1
 ·rcases h with ⟨rfl, rfl, rfl, rfl⟩ | ⟨x, rfl, h1⟩
  ·exact .inl ⟨rfl, by simp, rfl⟩
  ·refine .inr ⟨x, rfl, fun j u hj => ?_⟩
   have hj' := vl_lt hj
   simp only [List.length_map, List.length_range] at hj'
   have hr : IsRow .u8 w (some x) len cap zs := .inr ⟨x, rfl, h1⟩
   obtain ⟨-, b, off, he, -, hc⟩ := hr.bytes j hj'
   simp only [Option.some.injEq] at he
   subst he
   rw [add_lit, hc]
   rw [vl_get _ _ (by simpa using hj')] at hj
   simp [hj'] at hj
   rw [hj]
set_option maxRecDepth 100000 in
theorem vec_cells {W : World} {B fuel : Nat} {spare : Nat → Bool} {held : Bool} {c0 c1 c2 c3 c4 c5 c6 c7 : Value} {x : DataW H × List MemPlace} (hf : DataW.trod enc Try.prog W B spare held fuel 27 [c0, c1, c2, c3, c4, c5, c6, c7] = some x) :
  ∃ f : Nat → Int, [c0, c1, c2, c3, c4, c5, c6, c7] = (#[.int .i64 (f 0), .int .i64 (f 1), .int .i64 (f 2), .int .i64 (f 3), .int .i64 (f 4), .int .i64 (f 5), .int .i64 (f 6), .int .i64 (f 7)] : Array Value).toList ∧ ∀ j, j < 8 → -9223372036854775808 ≤ f j ∧ f j ≤ 9223372036854775807 := by
 obtain ⟨xs, m, -, -, -, hlen, hel⟩ := DataW.trod_array Try.underlying27 hf
 rw [cells2] at hel
 have get : ∀ (i : Nat) (c : Value), i < 8 → (([c0, c1, c2, c3, c4, c5, c6, c7] : List Value).drop (i * 1)).take 1 = [c] → ∃ n : Int, c = .int .i64 n ∧ -9223372036854775808 ≤ n ∧ n ≤ 9223372036854775807 := by
  intro i c hi hc
  have h := hel i hi
  rw [hc, List.getElem?_eq_getElem (by omega)] at h
  obtain ⟨n, e, -, wf⟩ := DataW.trod_int Try.underlying2 h
  refine ⟨n, (List.cons.inj e).1, ?_⟩
  exact wfI wf
 obtain ⟨n0, rfl, r0⟩ := get 0 c0 (by omega) rfl
 obtain ⟨n1, rfl, r1⟩ := get 1 c1 (by omega) rfl
 obtain ⟨n2, rfl, r2⟩ := get 2 c2 (by omega) rfl
 obtain ⟨n3, rfl, r3⟩ := get 3 c3 (by omega) rfl
 obtain ⟨n4, rfl, r4⟩ := get 4 c4 (by omega) rfl
 obtain ⟨n5, rfl, r5⟩ := get 5 c5 (by omega) rfl
 obtain ⟨n6, rfl, r6⟩ := get 6 c6 (by omega) rfl
 obtain ⟨n7, rfl, r7⟩ := get 7 c7 (by omega) rfl
 refine ⟨fn8 n0 n1 n2 n3 n4 n5 n6 n7, rfl, fun j hj => ?_⟩
 obtain rfl | rfl | rfl | rfl | rfl | rfl | rfl | rfl : j = 0 ∨ j = 1 ∨ j = 2 ∨ j = 3 ∨ j = 4 ∨ j = 5 ∨ j = 6 ∨ j = 7 := by omega
 all_goals assumption
set_option maxRecDepth 100000 in
theorem val_of {w : World} {n : Nat} {vs : List Value} {d : DataW H} {pl : List MemPlace} {a : Addr} (h : DataW.trod enc Try.prog w 0 (fun _ => true) true n 56 vs = some (d, pl))
  (hc : ∀ k v, vs[k]? = some v → w.cell? (a.add k) = some v) (hz : ∀ n ∈ d.weights Try.prog 56, n ≤ reachBytes) : ∃ b off, a = ⟨b, off, none⟩ ∧ b < w.heap.size ∧ ∃ v : V, At4 w b off v ∧ VOk w v := by
 obtain ⟨f0, f1, f2, hu, ⟨o0, t0⟩, ⟨o1, t1⟩, ⟨o2, t2⟩⟩ := fieldsVal
 obtain ⟨xs, m, -, hxy, hvl, hxl, hf⟩ := DataW.trod_struct hu h
 rw [cellsW] at hvl
 obtain ⟨v0, v1, v2, v3, rfl⟩ := list4 vs hvl
 obtain ⟨x0, x1, x2, rfl⟩ := list3 xs (by simpa using hxl)
 have g0 := hf 0 f0 rfl
 have g1 := hf 1 f1 rfl
 have g2 := hf 2 f2 rfl
 rw [o0, t0, cellsD] at g0
 rw [o1, t1, cellsB] at g1
 rw [o2, t2, cells4] at g2
 simp at g0 g1 g2
 obtain ⟨y0, y1, m', -, -, h0, h1⟩ := trod_struct2 Try.underlying53 g0
 simp only [cells3, cells2] at h0 h1
 obtain ⟨N0, e0, -, q0⟩ := DataW.trod_int Try.underlying3 h0
 obtain ⟨N1, e1, -, q1⟩ := DataW.trod_int Try.underlying2 h1
 have i0 : v0 = .int .i64 N0 := (List.cons.inj (show [v0] = [.int .i64 N0] from e0)).1
 have i1 : v1 = .int .i64 N1 := (List.cons.inj (show [v1] = [.int .i64 N1] from e1)).1
 subst i0 i1
 obtain ⟨y3, e3, -⟩ := DataW.trod_bool Try.underlying4 g2
 simp at e3
 subst e3
 have q0 := wfI q0
 have q1 := wfI q1
 have k0 := hc 0 _ rfl
 obtain ⟨b, off, spot⟩ := a
 have hspot : spot = none := by simpa [Addr.add] using World.cell?_spot k0
 subst hspot
 have k1 := hc 1 _ rfl
 have k2 := hc 2 _ rfl
 have k3 := hc 3 _ rfl
 rw [add_lit] at k0 k1 k2 k3
 refine ⟨b, off, rfl, cell_lt k0, ?_⟩
 simp only [Prod.mk.injEq] at hxy
 obtain ⟨rfl, -⟩ := hxy
 obtain ⟨tt, len, tc, zs, rfl, hr, hbound⟩ : ∃ tt len tc zs, v2 = .slice tt len tc ∧ IsRow .u8 w tt len tc zs ∧ len ≤ 140737488351232 := by
  rcases open_ints Try.underlying54 Try.underlying5 (by kernel_rfl) g1 with ⟨hcs, -⟩ | ⟨x, l, c, zs, hcs, _, hl, hm, hzz, hx, hcell, hwz⟩
  ·simp at hcs
   exact ⟨none, 0, 0, [], hcs, .inl ⟨rfl, rfl, rfl, rfl⟩, by omega⟩
  ·simp at hcs
   simp only [if_true] at hzz
   refine ⟨_, _, _, zs, hcs, .inr ⟨_, rfl, hl, hm, hzz, hcell, hwz⟩, ?_⟩
   have hmem : (zs.length * Try.prog.bytesOf 5) ∈ DataW.weights Try.prog 56 (DataW.agg ([x0, x1, x2].map (·.1))) := by
    simp only [DataW.weights, hu]
    refine DataW.weights_mem_each (j := 1) (t := 54) (d := x1.1) (by simp [t1]) rfl _ ?_
    rw [hx]
    simp only [DataW.weights, Try.underlying54, List.mem_cons]
    left
    simp only [lits, List.length_map, List.length_take, List.length_drop]
    congr 1
    omega
   have := hz _ hmem
   rw [bytesB] at this
   simp only [reachBytes] at this
   omega
 obtain ⟨bs, rfl, hbs, hsrc⟩ := isRow_src hr
 exact ⟨⟨N0, N1, tt, tc, bs, y3⟩, ⟨k0, k1, k2, k3⟩, ⟨hsrc, hbs, q0.1, q0.2, q1.1, q1.2, hbound⟩⟩
theorem weights_all {P : Program} {e : TypeId} : ∀ {ds : List (DataW H)} {d : DataW H}, d ∈ ds → ∀ n ∈ d.weights P e, n ∈ DataW.weightsAll P e ds
 | d0 :: ds, d, hd, n, hn => by
  simp only [DataW.weightsAll, List.mem_append]
  rcases List.mem_cons.1 hd with rfl | h
  ·exact .inl hn
  ·exact .inr (weights_all h n hn)
theorem row_of {w : World} {fuel : Nat} {a : Option Addr} {len cap : Nat} {d : DataW H} {pl : List MemPlace} (h : DataW.trod enc Try.prog w 0 (fun _ => true) true fuel 28 [.slice a len cap] = some (d, pl)) (hz : ∀ n ∈ d.weights Try.prog 28, n ≤ reachBytes) :
  ∃ l : List V, l.length = len ∧ Row w a cap l := by
 rcases Go.Deep.open_slice Try.underlying28 h with ⟨hcs, -⟩ | ⟨x, l, c, m, n, D, Pl, hcs, -, hl, hm, hmm, hx, hel⟩
 ·simp at hcs
  obtain ⟨rfl, rfl, rfl⟩ := hcs
  exact ⟨[], rfl, Row.nil w none 0 (by omega)⟩
 ·simp at hcs
  obtain ⟨rfl, rfl, rfl⟩ := hcs
  simp only [if_true] at hmm
  unfold maxLen at hm
  simp only [Prod.mk.injEq] at hx
  obtain ⟨rfl, -⟩ := hx
  have each : ∀ i, i < len → ∃ v : V, ∃ b off, x.add (i * 4) = ⟨b, off, none⟩ ∧ b < w.heap.size ∧ At4 w b off v ∧ VOk w v := by
   intro i hi
   obtain ⟨vs, hv, ht⟩ := hel i (by omega)
   rw [cellsW] at hv
   obtain ⟨-, hvl, hcell⟩ := World.cells?_some hv
   obtain ⟨b, off, e, hb, v, hc, hk⟩ := val_of ht (fun k v hk => by
    have : k < 4 := by
     obtain ⟨h, -⟩ := List.getElem?_eq_some_iff.1 hk
     omega
    rw [hcell k this]
    exact hk) (fun n hn => hz n (by
     simp only [DataW.weights, Try.underlying28, List.mem_cons, List.mem_append]
     exact .inr (.inl (weights_all (List.mem_map.2 ⟨i, List.mem_range.2 hi, rfl⟩) n hn))))
   exact ⟨v, b, off, e, hb, hc, hk⟩
  haveI : Inhabited V := ⟨zeroV⟩
  obtain ⟨vs, hv⟩ := Go.Deep.choose_lt each
  refine ⟨(List.range len).map vs, by simp, ⟨by simp; omega, by omega, fun i u hi => ?_⟩⟩
  have hlt : i < len := by
   obtain ⟨h, -⟩ := List.getElem?_eq_some_iff.1 hi
   simpa using h
  simp [hlt] at hi
  subst hi
  obtain ⟨b0, off0, e0, -⟩ := hv 0 (by omega)
  obtain ⟨b, off, e, hb, hk, hok⟩ := hv i hlt
  simp only [Nat.zero_mul] at e0
  obtain ⟨bx, ox, sx⟩ := x
  have e0' : (⟨bx, ox, sx⟩ : Addr) = ⟨b0, off0, none⟩ := by simpa [Addr.add] using e0
  simp only [Addr.mk.injEq] at e0'
  obtain ⟨rfl, rfl, rfl⟩ := e0'
  rw [add_lit] at e
  simp only [Addr.mk.injEq, and_true] at e
  obtain ⟨rfl, rfl⟩ := e
  exact ⟨bx, ox, rfl, hk, hok⟩
theorem sized_arg {P : Program} {ts : List TypeId} {ds : List (DataW H)} (h : (DataW.weightsEach P ts ds).all (· ≤ reachBytes) = true) {j : Nat} {t : TypeId} {d : DataW H} (ht : ts[j]? = some t) (hd : ds[j]? = some d) : ∀ n ∈ d.weights P t, n ≤ reachBytes := fun n hn => by
 have := List.all_eq_true.1 h _ (DataW.weights_mem_each ht hd n hn)
 simpa using this
end
end Go.Proofs.Ytmjmgdbhmbjmaab
