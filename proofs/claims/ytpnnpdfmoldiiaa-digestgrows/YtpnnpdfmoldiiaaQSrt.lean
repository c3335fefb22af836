/- Items of several texts. -/
import Derived.Test.YtpnnpdfmoldiiaaRows
import Derived.Shelf.SlSortCmp.NoneTotal
import Derived.Ground.SlsfProg
import Derived.Test.YtpnnpdfmoldiiaaQDg0
namespace Go.Proofs.Ytpnnpdfmoldiiaa
open Go.Shelf
def Try.sortDot_ren : Go.Shelf.Ren := ⟨fun | 6 => 92 | 15 => 132 | 14 => 131 | 28 => 145 | 29 => 146 | 20 => 137 | 21 => 138 | 22 => 139 | 23 => 140 | 24 => 141 | 25 => 142 | 26 => 143 | 27 => 144 | 46 => 151 | 47 => 152 | 48 => 153 | 49 => 154 | 50 => 155 | 57 => 157 | n => n, fun | 22 => 25 | 24 => 81 | 25 => 129 | 3 => 3 | 39 => 142 | 0 => 0 | 53 => 167 | 55 => 101 | 4 => 4 | 46 => 161 | 45 => 160 | 50 => 130 | 5 => 5 | 9 => 9 | 66 => 171 | 70 => 174 | 76 => 176 | 77 => 177 | n => n, fun | n => n⟩
theorem Try.sortDot : Go.Proofs.SlLaysF0.n6 Try.prog Try.sortDot_ren := {
 mixed := by kernel_rfl
 f6 := ⟨Try.f92.name, by decide, Try.func92.trans (congrArg some (by kernel_rfl))⟩
 f14 := ⟨Try.f131.name, by decide, Try.func131.trans (congrArg some (by kernel_rfl))⟩
 f15 := Try.func132.trans (congrArg some (by kernel_rfl))
 f20 := ⟨Try.f137.name, by decide, Try.func137.trans (congrArg some (by kernel_rfl))⟩
 f21 := ⟨Try.f138.name, by decide, Try.func138.trans (congrArg some (by kernel_rfl))⟩
 f22 := ⟨Try.f139.name, by decide, Try.func139.trans (congrArg some (by kernel_rfl))⟩
 f23 := ⟨Try.f140.name, by decide, Try.func140.trans (congrArg some (by kernel_rfl))⟩
 f24 := ⟨Try.f141.name, by decide, Try.func141.trans (congrArg some (by kernel_rfl))⟩
 f25 := ⟨Try.f142.name, by decide, Try.func142.trans (congrArg some (by kernel_rfl))⟩
 f26 := ⟨Try.f143.name, by decide, Try.func143.trans (congrArg some (by kernel_rfl))⟩
 f27 := ⟨Try.f144.name, by decide, Try.func144.trans (congrArg some (by kernel_rfl))⟩
 f28 := Try.func145.trans (congrArg some (by kernel_rfl))
 f29 := Try.func146.trans (congrArg some (by kernel_rfl))
 f46 := ⟨Try.f151.name, by decide, Try.func151.trans (congrArg some (by kernel_rfl))⟩
 f47 := Try.func152.trans (congrArg some (by kernel_rfl))
 f48 := Try.func153.trans (congrArg some (by kernel_rfl))
 f49 := ⟨Try.f154.name, by decide, Try.func154.trans (congrArg some (by kernel_rfl))⟩
 f50 := ⟨Try.f155.name, by decide, Try.func155.trans (congrArg some (by kernel_rfl))⟩
 f57 := ⟨Try.f157.name, by decide, Try.func157.trans (congrArg some (by kernel_rfl))⟩
 t0 := Try.underlying0
 a0 := Try.isAgg0
 z0 := Try.sizeOf0
 v0 := Try.zeroValue0
 t3 := Try.underlying3
 a3 := Try.isAgg3
 z3 := Try.sizeOf3
 v3 := Try.zeroValue3
 t4 := Try.underlying4
 a4 := Try.isAgg4
 z4 := Try.sizeOf4
 v4 := Try.zeroValue4
 t5 := Try.underlying5
 a5 := Try.isAgg5
 z5 := Try.sizeOf5
 v5 := Try.zeroValue5
 t9 := Try.underlying9
 a9 := Try.isAgg9
 z9 := Try.sizeOf9
 v9 := Try.zeroValue9
 t22 := Try.underlying25
 a22 := Try.isAgg25
 z22 := Try.sizeOf25
 v22 := Try.zeroValue25
 t25 := Try.underlying129
 a25 := Try.isAgg129
 z25 := Try.sizeOf129
 v25 := Try.zeroValue129
 t39 := Try.underlying142
 a39 := Try.isAgg142
 z39 := Try.sizeOf142
 v39 := Try.zeroValue142
 t45 := Try.underlying160
 a45 := Try.isAgg160
 z45 := Try.sizeOf160
 v45 := Try.zeroValue160
 t46 := Try.underlying161
 a46 := Try.isAgg161
 z46 := Try.sizeOf161
 v46 := Try.zeroValue161
 t50 := Try.underlying130
 a50 := Try.isAgg130
 z50 := Try.sizeOf130
 v50 := Try.zeroValue130
 t53 := Try.underlying167
 a53 := Try.isAgg167
 z53 := Try.sizeOf167
 v53 := Try.zeroValue167
 t55 := Try.underlying101
 a55 := Try.isAgg101
 z55 := Try.sizeOf101
 v55 := Try.zeroValue101
 t66 := Try.underlying171
 a66 := Try.isAgg171
 z66 := Try.sizeOf171
 v66 := Try.zeroValue171
 t70 := Try.underlying174
 a70 := Try.isAgg174
 z70 := Try.sizeOf174
 v70 := Try.zeroValue174
 t76 := Try.underlying176
 a76 := Try.isAgg176
 z76 := Try.sizeOf176
 v76 := Try.zeroValue176
 t77 := Try.underlying177
 a77 := Try.isAgg177
 z77 := Try.sizeOf177
 v77 := Try.zeroValue177 }
def Try.insDg_ren : Go.Shelf.Ren := ⟨fun | 20 => 147 | n => n, fun | 24 => 27 | 22 => 30 | 3 => 3 | 25 => 136 | 4 => 4 | 0 => 0 | n => n, fun | n => n⟩
theorem Try.insDg : Go.Proofs.SlLaysF0.n20 Try.prog Try.insDg_ren := {
 mixed := by kernel_rfl
 f20 := ⟨Try.f147.name, by decide, Try.func147.trans (congrArg some (by kernel_rfl))⟩
 t0 := Try.underlying0
 a0 := Try.isAgg0
 z0 := Try.sizeOf0
 v0 := Try.zeroValue0
 t3 := Try.underlying3
 a3 := Try.isAgg3
 z3 := Try.sizeOf3
 v3 := Try.zeroValue3
 t4 := Try.underlying4
 a4 := Try.isAgg4
 z4 := Try.sizeOf4
 v4 := Try.zeroValue4
 t22 := Try.underlying30
 a22 := Try.isAgg30
 z22 := Try.sizeOf30
 v22 := Try.zeroValue30
 t25 := Try.underlying136
 a25 := Try.isAgg136
 z25 := Try.sizeOf136
 v25 := Try.zeroValue136 }
end Go.Proofs.Ytpnnpdfmoldiiaa

namespace Go.Proofs.Ytpnnpdfmoldiiaa
open Go.RowKit Go.Shelf Go.Lib Go.Sort
theorem sw_off {α : Type} [Inhabited α] {enc : α → List Value} {k : Nat} {w W : World} {b o : Nat} {d : Array α} (h : SWK enc k w b o d W) : Off (fun c => c = b) w W := by
 obtain ⟨n, os, rfl⟩ := h
 unfold sortWorldK
 refine ⟨rfl, rfl, rfl, by rw [size_grow, size_putRowK]; exact Nat.le_add_right _ _, fun i hi hb => ?_⟩
 have hb : i ≠ b := hb
 show (((putRowK enc k (Sort.ahead w n) b o d).heap ++ os))[i]? = _
 have hi' : i < (putRowK enc k (Sort.ahead w n) b o d).heap.size := by rw [size_putRowK]; exact hi
 rw [Array.getElem?_append_left hi']
 unfold putRowK putRow mapBlock
 simp only [Array.getElem?_modify]
 rw [if_neg (Ne.symm hb)]
 rfl
theorem OwnG.holds {α : Type} [Inhabited α] {e : TypeId} {k : Nat} {cs : α → List Value} {w : World} {g cap : Nat} {l : List α} (h : OwnG e k cs w (some ⟨g, 0, none⟩) cap l) (hcs : ∀ x, (cs x).length = k) (hk : 0 < k) : HoldsK cs k w g 0 l.toArray := by
 intro j hj
 rw [size_flatK] at hj
 have hj : j < l.length * k := by simpa using hj
 have hi : j / k < l.length := Nat.div_lt_of_lt_mul (by rw [Nat.mul_comm]; exact hj)
 have hr : j % k < k := Nat.mod_lt _ hk
 obtain ⟨g', e', hc⟩ := h.at_ hcs (i := j / k) (x := l[j / k]) (List.getElem?_eq_getElem hi)
 simp only [Option.some.injEq, Addr.mk.injEq, and_true] at e'
 subst e'
 rw [get_flatK _ _ _ _ (by simpa using hj)]
 have hx : (cs l[j / k])[j % k]? = some (cs l[j / k])[j % k]! := by
  rw [getElem!_pos _ _ (by rw [hcs]; exact hr)]
  exact List.getElem?_eq_getElem _
 have := hc _ _ hx
 have ej : j / k * k + j % k = j := by rw [Nat.mul_comm]; exact Nat.div_add_mod j k
 rw [ej] at this
 have el : l.toArray[j / k]! = l[j / k] := by rw [getElem!_pos _ _ (by simpa using hi)]; simp
 rw [el]
 refine ⟨by simpa using this, ?_⟩
 rcases h.row.2 with ⟨hv, -⟩ | ⟨g2, c, cur, hv, hb, hh, -⟩
 ·cases hv
 ·simp only [Value.slice.injEq, Option.some.injEq, Addr.mk.injEq, and_true] at hv
  obtain ⟨rfl, -, -⟩ := hv
  simp [World.frozen?, hh]
def cfD (x y : Int × Int) : Int := if lessB x.1 x.2 y.1 y.2 = true then -1 else if lessB y.1 y.2 x.1 x.2 = true then 1 else 0
theorem ltD (x y : Int × Int) : ltOf cfD x y = lessB x.1 x.2 y.1 y.2 := by
 unfold ltOf cfD
 cases h : lessB x.1 x.2 y.1 y.2
 ·cases h2 : lessB y.1 y.2 x.1 x.2 <;> simp
 ·simp
theorem lt_iff2 {a b c d : Int} : lessB a b c d = true ↔ a < c ∨ a = c ∧ b < d := by simp [lessB]
theorem lt_no2 {a b c d : Int} : lessB a b c d = false ↔ ¬ (a < c ∨ a = c ∧ b < d) := by simp [lessB]
theorem swoD : SWO (ltOf cfD) where
 irrefl x := by rw [ltD, lt_no2]; omega
 trans x y z h1 h2 := by rw [ltD, lt_iff2] at *; omega
 ntrans x y z h1 h2 := by rw [ltD, lt_no2] at *; omega
theorem cf0 {x y : Int × Int} : cfD x y = 0 ↔ x = y := by
 unfold cfD
 rcases x with ⟨a, b⟩
 rcases y with ⟨c, d⟩
 simp only [Prod.mk.injEq]
 split
 ·rename_i h
  rw [lt_iff2] at h
  omega
 ·split
  ·rename_i h
   rw [lt_iff2] at h
   omega
  ·rename_i h1 h2
   rw [lt_iff2] at h1 h2
   omega
set_option maxHeartbeats 1000000 in
theorem less_x (a b c d : Int) (W : World) : Calls Try.prog 42 #[.agg #[.int .i64 a, .int .i64 b], .agg #[.int .i64 c, .int .i64 d]] W fun e w' => e = .returned (.bool (lessB a b c d)) ∧ ∃ os, w' = grow W os := by
 have o2 : ∀ x y, ∃ os, ((W.alloc x).alloc y) = grow W os := fun x y => ⟨_, by rw [alloc_eq_grow, alloc_eq_grow, grow_grow]⟩
 by_cases h0 : a = c
 ·have e0 : (a != c) = false := by simp [h0]
  have hb : lessB a b c d = decide (b < d) := by simp [lessB, h0]
  go_enter Try.func42, Try.ntmps42
  go_wp2
  go_ret
  exact ⟨by first | rfl | (rw [hb]; rfl), o2 _ _⟩
 ·have e0 : (a != c) = true := by simp [h0]
  have hb : lessB a b c d = decide (a < c) := by simp [lessB, h0]
  go_enter Try.func42, Try.ntmps42
  go_wp2
  go_ret
  exact ⟨by first | rfl | (rw [hb]; rfl), o2 _ _⟩
set_option maxHeartbeats 1000000 in
set_option maxRecDepth 100000 in
theorem order_x (x y : Int × Int) (W : World) : Calls Try.prog 93 #[.agg #[.int .i64 x.1, .int .i64 x.2], .agg #[.int .i64 y.1, .int .i64 y.2]] W fun e w' => e = .returned (.int .i64 (cfD x y)) ∧ ∃ q os, w' = grow (W.drewN q) os := by
 rcases x with ⟨a, b⟩
 rcases y with ⟨c, d⟩
 have ha : ∀ q, (W.alloc (.cells #[.int .i64 a, .int .i64 b] 81)).alloc (.cells #[.int .i64 c, .int .i64 d] 81) = q → ∃ os, q = grow W os := fun q hq => by
  subst hq
  exact ⟨_, by rw [alloc_eq_grow, alloc_eq_grow, grow_grow]⟩
 have C1 := (Cel.new W 81 #[.int .i64 a, .int .i64 b]).alloc (.cells #[.int .i64 c, .int .i64 d] 81)
 have C2 := Cel.new1 W (.cells #[.int .i64 a, .int .i64 b] 81) 81 #[.int .i64 c, .int .i64 d]
 go_enter Try.func93, Try.ntmps93
 go_upto_region 1 with fail
 generalize hv : (W.alloc (.cells #[.int .i64 a, .int .i64 b] 81)).alloc (.cells #[.int .i64 c, .int .i64 d] 81) = V at C1 C2 ⊢
 obtain ⟨os, hos⟩ := ha _ hv
 clear hv ha
 have HOS : Hid _ := hos
 have x0 : V.cell? ⟨W.heap.size, 0, none⟩ = some (.int .i64 a) := C1.cell 0
 have x1 : V.cell? ⟨W.heap.size, 1, none⟩ = some (.int .i64 b) := C1.cell 1
 have y0 : V.cell? ⟨W.heap.size + 1, 0, none⟩ = some (.int .i64 c) := C2.cell 0
 have y1 : V.cell? ⟨W.heap.size + 1, 1, none⟩ = some (.int .i64 d) := C2.cell 1
 have HC1 : Hid _ := C1
 have HC2 : Hid _ := C2
 clear hos C1 C2
 go_wp2_with fail
 refine (less_x a b c d _).mono ?_
 rintro e w1 ⟨rfl, os1, hw⟩
 have HW1 : Hid _ := hw
 have o1 : Off (fun _ => False) V w1 := by
  rw [hw]
  refine ⟨rfl, rfl, rfl, by rw [size_grow]; omega, fun i hi _ => ?_⟩
  show (V.heap ++ os1)[i]? = _
  rw [Array.getElem?_append_left hi]
 clear hw x0 x1 y0 y1
 cases h1 : lessB a b c d
 ·have B1 := HC1.out.off o1 (fun h => h)
  have B2 := HC2.out.off o1 (fun h => h)
  have x0 : w1.cell? ⟨W.heap.size, 0, none⟩ = some (.int .i64 a) := B1.cell 0
  have x1 : w1.cell? ⟨W.heap.size, 1, none⟩ = some (.int .i64 b) := B1.cell 1
  have y0 : w1.cell? ⟨W.heap.size + 1, 0, none⟩ = some (.int .i64 c) := B2.cell 0
  have y1 : w1.cell? ⟨W.heap.size + 1, 1, none⟩ = some (.int .i64 d) := B2.cell 1
  clear B1 B2 o1
  go_wp2_with fail
  refine (less_x c d a b _).mono ?_
  rintro e w2 ⟨rfl, os2, hw⟩
  have HW2 : Hid _ := hw
  clear hw x0 x1 y0 y1
  have fin : ∃ q os, w2 = grow (W.drewN q) os := ⟨0, _, by rw [HW2.out, HW1.out, HOS.out, grow_grow, grow_grow]; rfl⟩
  have HF : Hid _ := fin
  clear fin HW1 HW2 HOS HC1 HC2
  cases h2 : lessB c d a b
  ·go_wp2_with fail
   go_ret
   exact ⟨by simp [cfD, h1, h2], HF.out⟩
  ·go_wp2_with fail
   go_ret
   exact ⟨by simp [cfD, h1, h2], HF.out⟩
 ·have fin : ∃ q os, w1 = grow (W.drewN q) os := ⟨0, _, by rw [HW1.out, HOS.out, grow_grow]; rfl⟩
  have HF : Hid _ := fin
  clear fin HW1 HOS HC1 HC2 o1
  go_wp2_with fail
  go_ret
  exact ⟨by simp [cfD, h1], HF.out⟩
theorem cmpD (b o n : Nat) (w : World) : CmpLays Try.prog 93 #[] dcs 2 cfD b o n w := fun _ _ _ _ x y => order_x x y _
theorem grow_off {W w' : World} (h : ∃ q os, w' = grow (W.drewN q) os) : Off (fun _ => False) W w' := by
 obtain ⟨q, os, rfl⟩ := h
 refine ⟨rfl, rfl, rfl, by rw [size_grow]; exact Nat.le_add_right _ _, fun i hi _ => ?_⟩
 show (W.heap ++ os)[i]? = _
 rw [Array.getElem?_append_left hi]
theorem order_any (x y : Int × Int) (W : World) : Calls Try.prog 93 #[.agg #[.int .i64 x.1, .int .i64 x.2], .agg #[.int .i64 y.1, .int .i64 y.2]] W fun e w' => e = .returned (.int .i64 (cfD x y)) ∧ Off (fun _ => False) W w' :=
 (order_x x y W).mono fun _ _ h => ⟨h.1, grow_off h.2⟩
def SrD (ds : List (Int × Int)) : Prop := ds.Pairwise fun x y => lessB y.1 y.2 x.1 x.2 = false
theorem dsort_any (t : Option Addr) (c : Nat) (ds : List (Int × Int)) (w : World) (h : OwnG 81 2 dcs w t c ds) (hl : ds.length ≤ 1000000) :
  Calls Try.prog 92 #[.slice t ds.length c, .func (.func 93) #[] #[]] w fun e w' => e = .returned (.tuple #[]) ∧ ∃ ds', ds'.length = ds.length ∧ ds'.Perm ds ∧ SrD ds' ∧ RowD w' t c ds' ∧ Off (fun k => blk t = some k) w w' := by
 have rd := h.rowD
 have hsh : (t = none ∧ ds = []) ∨ ∃ g, t = some ⟨g, 0, none⟩ ∧ g < w.heap.size := by
  rcases h.row.2 with ⟨hv, h0⟩ | ⟨g, c, cur, hv, hb, hh, -⟩
  ·simp only [Value.slice.injEq] at hv
   exact .inl ⟨hv.1, List.eq_nil_of_length_eq_zero h0⟩
  ·simp only [Value.slice.injEq] at hv
   exact .inr ⟨g, hv.1, lt_of_block hh⟩
 rcases hsh with ⟨rfl, rfl⟩ | ⟨g, rfl, hg⟩
 ·refine (AnyF.slices_SortFunc_none Try.sortDot none c (.func (.func 93) #[] #[]) w).mono ?_
  rintro e w' ⟨rfl, rfl⟩
  exact ⟨rfl, [], rfl, List.Perm.refl _, List.Pairwise.nil, rd, Off.refl _ _⟩
 ·have hH := h.holds dcs_len (by omega)
  have eg : ∀ args w, (callFunc 93 args).run Try.prog w = .ok (.enter 93 args) w := enters_of Try.func93 (by kernel_rfl) rfl
  have hcon := AnyQ.slices_SortFunc Try.sortDot 2 Try.isAgg81 Try.sizeOf81 dcs dcs_len (fun x => dcs_one x) cfD swoD 93 #[] g 0 c ds.toArray w eg (cmpD g 0 _ w) hH hg (by simp; omega)
  have ez : ds.toArray.size = ds.length := by simp
  rw [ez] at hcon
  refine hcon.mono ?_
  rintro e w' ⟨rfl, d', n, os, hp, hs, rfl⟩
  have sw : SWK dcs 2 w g 0 d' (sortWorldK dcs 2 w g 0 n d' os) := ⟨n, os, rfl⟩
  have hsz : d'.size = ds.length := by rw [hp.1]; simp
  have hH' := sw.holds hg hH (by rw [hsz]; simp)
  refine ⟨rfl, d'.toList, by simpa using hsz, ?_, ?_, ⟨?_, rd.bound, fun i d hi => ?_⟩, (sw_off sw).mono (fun i _ e => by subst e; rfl)⟩
  ·have := hp.2.2
   rw [show d'.extract 0 ds.length = d' by rw [← hsz]; simp, show ds.toArray.extract 0 ds.length = ds.toArray by rw [← ez]; simp] at this
   simpa using this
  ·refine List.pairwise_iff_getElem.2 fun i j hi hj hij => ?_
   have := hs i j (by omega) hij (by rw [← hsz]; simpa using hj)
   rw [ltD, getElem!_pos d' j (by simpa using hj), getElem!_pos d' i (by simpa using hi)] at this
   simpa using this
  ·have := rd.len
   simp
   omega
  ·have hi' : i < d'.size := by
    obtain ⟨h, -⟩ := List.getElem?_eq_some_iff.1 hi
    simpa using h
   have e1 : d'[i]! = d := by
    rw [getElem!_pos d' i hi']
    obtain ⟨h, e⟩ := List.getElem?_eq_some_iff.1 hi
    simpa using e
   have k0 := (hH'.cell hi' (c := 0) (by omega)).1
   have k1 := (hH'.cell hi' (c := 1) (by omega)).1
   rw [e1] at k0 k1
   exact ⟨g, 0, rfl, k0, k1⟩
end Go.Proofs.Ytpnnpdfmoldiiaa
