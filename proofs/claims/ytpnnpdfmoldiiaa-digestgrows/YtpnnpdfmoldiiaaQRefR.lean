/- Items of several texts. -/
import Derived.Laws.OwnMore
import Derived.Deep.Cut
import Derived.Test.YtpnnpdfmoldiiaaQLiv
import Derived.Test.YtpnnpdfmoldiiaaQSam
import Derived.Test.YtpnnpdfmoldiiaaQInsP
import Derived.Test.YtpnnpdfmoldiiaaQGMay
import Derived.Test.YtpnnpdfmoldiiaaQGSame
import Derived.Test.YtpnnpdfmoldiiaaQLaw10
import Derived.Test.YtpnnpdfmoldiiaaQJns
import Derived.Test.YtpnnpdfmoldiiaaQGJoin
namespace Go.Proofs.Ytpnnpdfmoldiiaa
open Go.RowKit
theorem flat_inv {α : Type} {cs : α → List Value} {size : Nat} (hcs : ∀ x, (cs x).length = size) : ∀ {l : List α} {j : Nat} {u : Value}, (l.flatMap cs)[j]? = some u → ∃ i r x, l[i]? = some x ∧ j = i * size + r ∧ (cs x)[r]? = some u
 | [], j, u, h => by simp at h
 | x :: l, j, u, h => by
  rw [List.flatMap_cons] at h
  by_cases hj : j < size
  ·rw [List.getElem?_append_left (by rw [hcs]; exact hj)] at h
   exact ⟨0, j, x, rfl, by omega, h⟩
  ·rw [List.getElem?_append_right (by rw [hcs]; omega), hcs] at h
   obtain ⟨i, r, y, hy, e, hu⟩ := flat_inv hcs h
   refine ⟨i + 1, r, y, by simpa using hy, ?_, hu⟩
   rw [Nat.succ_mul]
   omega
theorem Ens.news {w : World} {b : Addr} {cap : Nat} {l : List E} (h : Ens w (some b) cap l) : ∀ j u, (l.flatMap ecs)[j]? = some u → w.cell? (b.add j) = some u := by
 intro j u hj
 obtain ⟨i, r, x, hx, rfl, hu⟩ := flat_inv ecs_len hj
 obtain ⟨bb, off, e, h1, -⟩ := h.at_ i x hx
 simp only [Option.some.injEq] at e
 subst e
 rw [add_lit, ← Nat.add_assoc]
 exact h1 r u hu
theorem flat_one (l : List E) : ∀ u ∈ l.flatMap ecs, u.oneCell' = true := by
 intro u hu
 obtain ⟨x, -, hx⟩ := List.mem_flatMap.1 hu
 exact ecs_one x u hx
theorem flat_len (l : List E) : (l.flatMap ecs).length = l.length * 10 := by
 induction l with
 | nil => rfl
 | cons x l ih =>
  rw [List.flatMap_cons, List.length_append, ih, ecs_len, List.length_cons]
  omega
theorem app_runE {w : World} {a : Option Addr} {cap : Nat} {l : List E} (hown : OwnG 40 10 ecs w a cap l) {b : Option Addr} {cb : Nat} {k : List E} (hr : Ens w b cb k) (hz : b = none → cb = 0) (hb : l.length + k.length ≤ 1000000) (ty : TypeId) :
  ∃ a' c' w', (Builtin.append_ #[22, 22] ty #[.slice a l.length cap, .slice b k.length cb]).run Try.prog w = .ok (.slice a' (l ++ k).length c') w' ∧ OwnG 40 10 ecs w' a' c' (l ++ k) ∧ Off (fun c => blk a = some c) w w' ∧ (blk a' = blk a ∨ blk a' = some w.heap.size) := by
 obtain ⟨i0, hi, hz0, hz1, hz2⟩ := info_parts Try.infoE
 cases b with
 | none =>
  obtain rfl : cb = 0 := hz rfl
  obtain rfl : k = [] := List.eq_nil_of_length_eq_zero (by have := hr.len; omega)
  refine ⟨a, cap, w, ?_, by rw [List.append_nil]; exact hown, Off.refl _ w, .inl rfl⟩
  rw [List.append_nil]
  exact run_append_owned_none (P := Try.prog) (w := w) 0 22 ty 40 i0 10 Try.underlying22 hi _ _ _ hown.row
 | some ad =>
  obtain ⟨v', w', hrun, own', grow', -, hat⟩ := run_append_own_at (P := Try.prog) w 0 22 ty 40 i0 _ 10 104 Try.underlying22 hi hz0 hz1 hz2 rfl (by decide) _ _ _ hown.row ad k.length cb (k.flatMap ecs) (flat_len k) hr.news (flat_one k) (by unfold maxLen; omega) (by omega) (Nat.zero_le _)
  rw [← List.flatMap_append, ← List.length_append] at own'
  obtain ⟨t', c', rfl⟩ : ∃ t' c', v' = .slice t' (l ++ k).length c' := by
   rcases own'.2 with ⟨rfl, h0⟩ | ⟨g, c, cur, hv, -⟩
   ·exact ⟨none, 0, by rw [h0]⟩
   ·exact ⟨_, _, hv⟩
  rw [blk_own, blk_own] at hat
  rw [blk_own] at grow'
  exact ⟨t', c', w', hrun, ⟨own'⟩, (Off.refl _ w).grown grow' (fun k hk => .inl hk), hat⟩
theorem OwnG.zero {α : Type} {e : TypeId} {size : Nat} {cs : α → List Value} {w : World} {a : Option Addr} {cap : Nat} {l : List α} (h : OwnG e size cs w a cap l) : a = none → cap = 0 := by
 intro ea
 rcases h.row.2 with ⟨hv, -⟩ | ⟨g, c, cur, hv, -⟩
 ·simp only [Value.slice.injEq] at hv
  exact hv.2.2
 ·simp only [Value.slice.injEq] at hv
  rw [ea] at hv
  simp at hv
theorem wpList_appE {w : World} {ops : Array Oper} {rest : List Oper} {o : Oper} {a : Act} {Q : Exit → Act → World → Prop} (hgd : o.guard = none) (s x : Operand)
  (ho : o.op = .call { callee := .builtin .append, args := #[s, x], argTypes := #[22, 22] })
  (tad : Option Addr) (cap : Nat) (l : List E) (hs : a.eval s = .slice tad l.length cap) (hown : OwnG 40 10 ecs w tad cap l)
  (xt : Option Addr) (xc : Nat) (k : List E) (hx : a.eval x = .slice xt k.length xc) (hr : Ens w xt xc k) (hz : xt = none → xc = 0) (hb : l.length + k.length ≤ 1000000)
  (h : ∀ t' c' w' ys, Hid (ys = l ++ k) → OwnG 40 10 ecs w' t' c' ys → Off (fun c => blk tad = some c) w w' → (blk t' = blk tad ∨ blk t' = some w.heap.size) → wpList Try.prog ops Q rest (a.put o.dst (.slice t' ys.length c')) w') :
  wpList Try.prog ops Q (o :: rest) a w := by
 obtain ⟨a', c', w', hrun, own, off, hat⟩ := app_runE hown hr hz hb o.type
 refine wpList_plain hgd fun K' hK' => ?_
 unfold Oper.wp
 simp only [execOp, ho, resolve, invoke, builtin, Sem.run_bind, Sem.run_pure, Result.andThen_ok, List.map_toArray, List.map_cons, List.map_nil, hs, hx, hrun]
 exact hK' _ _ (h a' c' w' _ (show l ++ k = l ++ k from rfl) own off hat)
structure RTab (q : Nat) (xs : List E) (w : World) : Prop where
 is : ∃ a cap, Cel q 73 #[.slice a xs.length cap] w ∧ Ens w a cap xs ∧ (a = none → cap = 0)
 sor : Sor E.key xs
 few : xs.length ≤ 256
theorem RTab.off {D : Nat → Prop} {q : Nat} {xs : List E} {w w' : World} (h : RTab q xs w) (o : Off D w w') (hq : ¬ D q) (hN : NoI D w) : RTab q xs w' := by
 obtain ⟨⟨a, cap, h1, h2, h3⟩, hs, hf⟩ := h
 exact ⟨⟨a, cap, h1.off o hq, h2.offD o hN, h3⟩, hs, hf⟩
theorem RTab.free {q : Nat} {xs : List E} {w w' : World} (h : RTab q xs w) (o : Off (fun _ => False) w w') : RTab q xs w' := h.off o (fun h => h) (NoI.none w)
theorem RTab.noI {q : Nat} {xs : List E} {w : World} (h : RTab q xs w) : NoI (fun c => c = q) w := by
 obtain ⟨a, cap, h1, -⟩ := h.is
 exact h1.noI (fun k n e => by cases e)
theorem RTab.row {q : Nat} {xs : List E} {w : World} (h : RTab q xs w) : ∀ e ∈ xs, Row w e.a e.cap e.l := by
 obtain ⟨a, cap, -, h2, -⟩ := h.is
 intro e he
 obtain ⟨i, hi⟩ := List.getElem?_of_mem he
 obtain ⟨_, _, _, _, h⟩ := h2.at_ i e hi
 exact h
theorem RTab.lt {q : Nat} {xs : List E} {w : World} (h : RTab q xs w) : q < w.heap.size := by
 obtain ⟨a, cap, h1, -⟩ := h.is
 exact h1.lt
def atR (xs : List E) (k : ByteArray) (r : Int) : Prop := (fndG E.key k xs = none ∧ r = -1) ∨ ∃ (n : Nat) (x : E), r = (n : Int) ∧ xs[n]? = some x ∧ x.key = k
set_option maxRecDepth 100000 in
set_option maxHeartbeats 1000000 in
theorem rat_any (q : Nat) (xs : List E) (k : ByteArray) (w : World) (h : RTab q xs w) : Calls Try.prog 87 #[.pointer (some ⟨q, 0, none⟩), .string k] w fun e w' => ∃ r : Int, e = .returned (.int .i64 r) ∧ atR xs k r ∧ Off (fun _ => False) w w' := by
 obtain ⟨⟨a, cap, h1, h2, -⟩, hs, hf⟩ := h
 have c0 : w.cell? ⟨q, 0, none⟩ = some (.slice a xs.length cap) := h1.cell 0
 have HE : Hid _ := h2
 clear h1 h2 hs
 go_enter Try.func87, Try.ntmps87
 go_wp2_with fail
 clear c0
 go_loopw [12] (fun y wr => ∃ n : Nat, y = .int .i64 (n : Int) ∧ n ≤ xs.length ∧ (∀ i x, i < n → xs[i]? = some x → x.key ≠ k) ∧ Off (fun _ => False) w wr) (fun y _ => (xs.length - intOf y).toNat)
 case atStart => exact ⟨0, rfl, by omega, fun i x hi => by omega, Off.refl _ w⟩
 case round =>
  obtain ⟨n, rfl, hn, hg, O⟩ := hrel
  have HG : Hid _ := hg
  have HO : Hid _ := O
  have hE := HE.out.off O
  clear hg O
  by_cases hlt : n < xs.length
  ·have e1 : decide ((n : Int) < (xs.length : Int)) = true := decide_eq_true (by omega)
   have e2 : decide (n < xs.length) = true := decide_eq_true hlt
   obtain ⟨x, hx⟩ : ∃ x, xs[n]? = some x := ⟨_, List.getElem?_eq_getElem hlt⟩
   obtain ⟨bx, ox, rfl, kx, rx⟩ := hE.at_ n x hx
   obtain ⟨k0, k1, k2, k3, k4, k5, k6, k7, k8, k9⟩ := ent10 kx
   have hix := idx_ents hlt
   have HRX : Hid _ := rx
   clear kx rx
   clear hE
   go_upto_region 4 with fail
   have Cq6 := Cel.new wr 40 #[.string x.key, .int .i64 (x.f 0), .int .i64 (x.f 1), .int .i64 (x.f 2), .int .i64 (x.f 3), .int .i64 (x.f 4), .int .i64 (x.f 5), .int .i64 (x.f 6), .int .i64 (x.f 7), .slice x.a x.l.length x.cap]
   have OA : Off (fun _ => False) wr (wr.alloc (.cells #[.string x.key, .int .i64 (x.f 0), .int .i64 (x.f 1), .int .i64 (x.f 2), .int .i64 (x.f 3), .int .i64 (x.f 4), .int .i64 (x.f 5), .int .i64 (x.f 6), .int .i64 (x.f 7), .slice x.a x.l.length x.cap] 40)) := (Off.refl _ wr).alloc _
   generalize hq : wr.heap.size = q6 at Cq6 ⊢
   generalize hv : wr.alloc (.cells #[.string x.key, .int .i64 (x.f 0), .int .i64 (x.f 1), .int .i64 (x.f 2), .int .i64 (x.f 3), .int .i64 (x.f 4), .int .i64 (x.f 5), .int .i64 (x.f 6), .int .i64 (x.f 7), .slice x.a x.l.length x.cap] 40) = V6 at Cq6 OA ⊢
   clear hq hv
   clear k0 k1 k2 k3 k4 k5 k6 k7 k8 k9 hix
   have x0 : V6.cell? ⟨q6, 0, none⟩ = some (.string x.key) := Cq6.cell 0
   have HO6 : Hid _ := HO.out.trans OA (fun _ _ h => h)
   clear OA Cq6
   by_cases hk : x.key = k
   ·have kq1 : (x.key.toList == k.toList) = true := by rw [hk]; simp
    have kq2 : x.key.toList = k.toList := by rw [hk]
    have HK : Hid _ := hk
    clear hk
    go_wp2_with fail
    go_ret
    exact ⟨(n : Int), rfl, .inr ⟨n, x, rfl, hx, HK.out⟩, HO6.out⟩
   ·have kq1 : (x.key.toList == k.toList) = false := by rw [toL, toL, beq_eq_false_iff_ne]; exact fun e => hk (kb_inj e)
    have HK : Hid _ := hk
    clear hk
    go_wp2_with fail
    go_roundw
    case rel =>
     refine ⟨n + 1, by go_num, by omega, fun i y hi hy => ?_, HO6.out⟩
     by_cases e : i = n
     ·subst e
      rw [hx] at hy
      cases hy
      exact HK.out
     ·exact HG.out i y (by omega) hy
    case measure => simp [intOf]; omega
  ·obtain rfl : n = xs.length := by omega
   have e1 : decide ((xs.length : Int) < (xs.length : Int)) = false := decide_eq_false (by omega)
   have e2 : decide (xs.length < xs.length) = false := decide_eq_false (by omega)
   go_wp2_with fail
   go_ret
   refine ⟨-1, rfl, .inl ⟨(fnd_none E.key).2 (fun x hx => ?_), rfl⟩, HO.out⟩
   obtain ⟨i, hi⟩ := List.getElem?_of_mem hx
   have : i < xs.length := by
    obtain ⟨h, -⟩ := List.getElem?_eq_some_iff.1 hi
    exact h
   exact HG.out i x this hi
theorem at_fnd {xs : List E} (hs : Sor E.key xs) {k : ByteArray} {n : Nat} {x : E} (hx : xs[n]? = some x) (hk : x.key = k) : fndG E.key k xs = some x := (fnd_some E.key hs).2 ⟨List.mem_of_getElem? hx, hk⟩
set_option maxRecDepth 100000 in
set_option maxHeartbeats 1000000 in
theorem rget_any (q : Nat) (xs : List E) (k : ByteArray) (w : World) (h : RTab q xs w) : Calls Try.prog 39 #[.pointer (some ⟨q, 0, none⟩), .string k] w fun e w' => e = .returned (.tuple #[.agg #[.int .i64 ((getE xs k).f 0), .int .i64 ((getE xs k).f 1), .int .i64 ((getE xs k).f 2), .int .i64 ((getE xs k).f 3), .int .i64 ((getE xs k).f 4), .int .i64 ((getE xs k).f 5), .int .i64 ((getE xs k).f 6), .int .i64 ((getE xs k).f 7), .slice (getE xs k).a (getE xs k).l.length (getE xs k).cap], .bool (fndG E.key k xs).isSome]) ∧ Row w' (getE xs k).a (getE xs k).cap (getE xs k).l ∧ Off (fun _ => False) w w' := by
 obtain ⟨W, hW⟩ : ∃ W, W = w.alloc (.cells #[.int .i64 (zer 0), .int .i64 (zer 1), .int .i64 (zer 2), .int .i64 (zer 3), .int .i64 (zer 4), .int .i64 (zer 5), .int .i64 (zer 6), .int .i64 (zer 7), .slice none 0 0] 38) := ⟨_, rfl⟩
 have O : Off (fun _ => False) w W := by rw [hW]; exact (Off.refl _ w).alloc _
 have C : Cel w.heap.size 38 #[.int .i64 (zer 0), .int .i64 (zer 1), .int .i64 (zer 2), .int .i64 (zer 3), .int .i64 (zer 4), .int .i64 (zer 5), .int .i64 (zer 6), .int .i64 (zer 7), .slice none 0 0] W := by rw [hW]; exact Cel.new w _ _
 have HT : Hid _ := h
 have HTW : Hid _ := h.free O
 have HO : Hid _ := O
 have HC : Hid _ := C
 have HW : Hid _ := hW
 clear h O C hW
 go_enter Try.func39, Try.ntmps39
 go_upto_region 1 with fail
 rw [show (w.alloc (.cells #[.int .i64 0, .int .i64 0, .int .i64 0, .int .i64 0, .int .i64 0, .int .i64 0, .int .i64 0, .int .i64 0, .slice none 0 0] 38)) = W from HW.out.symm]
 go_wp2_with fail
 refine (rat_any q xs k _ HTW.out).mono ?_
 rintro e w1 ⟨r, rfl, hr, o1⟩
 have HT1 : Hid _ := HTW.out.free o1
 have HO1 : Hid _ := HO.out.trans o1 (fun _ _ h => h)
 have HC1 : Hid _ := HC.out.off o1 (fun h => h)
 clear o1
 obtain ⟨z0, z1, z2, z3, z4, z5, z6, z7, z8⟩ := cel9 HC1.out
 have fr := HC1.out.free
 rcases hr with ⟨hf, rfl⟩ | ⟨n, x, rfl, hx, hk⟩
 ·have HG : Hid (getE xs k = zE k) := by show _ = _; unfold getE; rw [hf]; rfl
  have HF : Hid _ := hf
  clear hf
  go_wp2_with fail
  refine bodyPost_ret (results_sibs2 rfl rfl rfl (HC1.out.st9 zer (.slice none 0 0))) rfl ?_
  rw [HG.out, HF.out]
  exact ⟨rfl, Row.nil _ none 0 (by omega), HO1.out.st9 (.inr (Nat.le_refl _)) zer (.slice none 0 0)⟩
 ·have hf := at_fnd HT.out.sor hx hk
  have HG : Hid (getE xs k = x) := by show _ = _; unfold getE; rw [hf]; rfl
  have HF : Hid _ := hf
  obtain ⟨a, cap, h1, h2, -⟩ := HT1.out.is
  have c0 : w1.cell? ⟨q, 0, none⟩ = some (.slice a xs.length cap) := h1.cell 0
  have hlt : n < xs.length := by
   obtain ⟨h, -⟩ := List.getElem?_eq_some_iff.1 hx
   exact h
  obtain ⟨bx, ox, rfl, kx, -⟩ := h2.at_ n x hx
  obtain ⟨k0, k1, k2, k3, k4, k5, k6, k7, k8, k9⟩ := ent10 kx
  have hix := idx_ents hlt
  have d1 : decide ((0 : Int) ≤ (n : Int)) = true := decide_eq_true (by omega)
  have HX : Hid _ := hx
  clear h1 h2 kx hf hx hk
  go_wp2_with fail
  refine bodyPost_ret (results_sibs2 rfl rfl rfl (HC1.out.st9 x.f (.slice x.a x.l.length x.cap))) rfl ?_
  have OZ := HO1.out.st9 (b := w.heap.size) (.inr (Nat.le_refl _)) x.f (.slice x.a x.l.length x.cap)
  rw [HG.out, HF.out]
  exact ⟨rfl, (HT.out.row x (List.mem_of_getElem? HX.out)).off OZ, OZ⟩
end Go.Proofs.Ytpnnpdfmoldiiaa

namespace Go.Proofs.Ytpnnpdfmoldiiaa
open Go.RowKit
def wrs (g : Nat) : Nat → List Value → World → World
 | _, [], w => w
 | o, u :: us, w => wrs g (o + 1) us (w.setCell ⟨g, o, none⟩ u)
theorem wrs_out {g : Nat} {c : Addr} : ∀ {us : List Value} {o : Nat} {w : World}, (c.block = g → c.off < o ∨ o + us.length ≤ c.off) → (wrs g o us w).cell? c = w.cell? c
 | [], _, _, _ => rfl
 | u :: us, o, w, h => by
  unfold wrs
  rw [List.length_cons] at h
  rw [wrs_out (fun e => by have := h e; omega), cell_other]
  intro e
  subst e
  have := h rfl
  simp at this
  omega
theorem wrs_in {g : Nat} : ∀ {us : List Value} {o : Nat} {w : World}, (∀ i, i < us.length → ∃ v, w.cell? ⟨g, o + i, none⟩ = some v) → ∀ i u, us[i]? = some u → (wrs g o us w).cell? ⟨g, o + i, none⟩ = some u
 | [], _, _, _, i, u, hu => by simp at hu
 | x :: us, o, w, h, i, u, hu => by
  unfold wrs
  cases i with
  | zero =>
   simp at hu
   subst hu
   rw [wrs_out (fun _ => by simp)]
   obtain ⟨v, hv⟩ := h 0 (by simp)
   exact cell_same hv
  | succ i =>
   rw [show o + (i + 1) = (o + 1) + i by omega]
   refine wrs_in (fun j hj => ?_) i u (by simpa using hu)
   obtain ⟨v, hv⟩ := h (j + 1) (by simpa using hj)
   refine ⟨v, ?_⟩
   rw [cell_other (by intro e; simp only [Addr.mk.injEq, true_and, and_true] at e; omega), ← hv, show o + 1 + j = o + (j + 1) by omega]
theorem off_wrs {D : Nat → Prop} {a : World} {g : Nat} : ∀ {us : List Value} {o : Nat} {w : World}, Off D a w → (D g ∨ a.heap.size ≤ g) → Off D a (wrs g o us w)
 | [], _, _, h, _ => h
 | u :: us, o, w, h, hg => by
  unfold wrs
  exact off_wrs (h.setCell (p := ⟨g, o, none⟩) hg u) hg
def sib9 (f : Nat → Int) (s : Value) : List Value := [.int .i64 (f 0), .int .i64 (f 1), .int .i64 (f 2), .int .i64 (f 3), .int .i64 (f 4), .int .i64 (f 5), .int .i64 (f 6), .int .i64 (f 7), s]
theorem ecs_sib (v : E) : ecs v = .string v.key :: sib9 v.f (.slice v.a v.l.length v.cap) := rfl
theorem ens_set {w V : World} {g cap : Nat} {xs : List E} (h : OwnG 40 10 ecs w (some ⟨g, 0, none⟩) cap xs) {n : Nat} {x v : E} (hx : xs[n]? = some x) (hk : v.key = x.key)
  (hV : ∀ o, V.cell? ⟨g, o, none⟩ = (wrs g (n * 10 + 1) (sib9 v.f (.slice v.a v.l.length v.cap)) w).cell? ⟨g, o, none⟩) (hr : ∀ e ∈ xs, Row V e.a e.cap e.l) (hv : Row V v.a v.cap v.l) : Ens V (some ⟨g, 0, none⟩) cap (xs.set n v) := by
 have hb : xs.length ≤ cap ∧ cap ≤ 9223372036854775807 := by
  rcases h.row.2 with ⟨hv, h0⟩ | ⟨g, c, cur, hv, hb, hh, hc, hm, -⟩
  ·simp only [Value.slice.injEq] at hv
   omega
  ·simp only [Value.slice.injEq] at hv
   unfold maxLen at hm
   omega
 have hlt : n < xs.length := by
  obtain ⟨h, -⟩ := List.getElem?_eq_some_iff.1 hx
  exact h
 refine ⟨by rw [List.length_set]; exact hb.1, hb.2, fun i e hi => ?_⟩
 by_cases hin : i = n
 ·subst hin
  rw [List.getElem?_set_self hlt] at hi
  cases hi
  obtain ⟨g', eg, h1⟩ := h.at_ ecs_len hx
  simp only [Option.some.injEq, Addr.mk.injEq, and_true] at eg
  subst eg
  refine ⟨g, 0, rfl, fun j u hj => ?_, hv⟩
  rw [Nat.zero_add, hV]
  rw [ecs_sib] at hj
  cases j with
  | zero =>
   rw [wrs_out (fun _ => .inl (by simp)), h1 0 _ rfl, ← hk]
   simpa using hj
  | succ j =>
   rw [show i * 10 + (j + 1) = i * 10 + 1 + j by omega]
   refine wrs_in (fun r hr => ?_) j u (by simpa using hj)
   have hr' : r < 9 := hr
   have hl : r + 1 < (ecs x).length := by rw [ecs_len]; omega
   exact ⟨_, by rw [show i * 10 + 1 + r = i * 10 + (r + 1) by omega]; exact h1 (r + 1) _ (List.getElem?_eq_getElem hl)⟩
 ·rw [List.getElem?_set_ne (fun e => hin e.symm)] at hi
  obtain ⟨g', eg, h1⟩ := h.at_ ecs_len hi
  simp only [Option.some.injEq, Addr.mk.injEq, and_true] at eg
  subst eg
  refine ⟨g, 0, rfl, fun j u hj => ?_, hr e (List.mem_of_getElem? hi)⟩
  have hj' : j < 10 := by
   obtain ⟨h, -⟩ := List.getElem?_eq_some_iff.1 hj
   rwa [ecs_len] at h
  rw [Nat.zero_add, hV, wrs_out (fun _ => ?_), h1 j u hj]
  show _ < _ ∨ n * 10 + 1 + 9 ≤ _
  simp only
  omega
section
variable {α : Type} (key : α → ByteArray)
theorem sor_keys {t : List α} : Sor id (t.map key) ↔ Sor key t := map_sor (key := key) (key' := id) (fun _ => rfl)
theorem sor_at {t : List α} (h : Sor key t) {i j : Nat} {x y : α} (hx : t[i]? = some x) (hy : t[j]? = some y) (hij : i ≠ j) : key x ≠ key y := by
 obtain ⟨hi, ex⟩ := List.getElem?_eq_some_iff.1 hx
 obtain ⟨hj, ey⟩ := List.getElem?_eq_some_iff.1 hy
 have hp := List.pairwise_iff_getElem.1 h
 rcases Nat.lt_or_gt_of_ne hij with hl | hl
 ·have := hp i j hi hj hl
  rw [ex, ey] at this
  exact blt_ne this
 ·have := hp j i hj hi hl
  rw [ex, ey] at this
  exact (blt_ne this).symm
theorem sor_set {t : List α} (h : Sor key t) {n : Nat} {x v : α} (hx : t[n]? = some x) (hk : key v = key x) : Sor key (t.set n v) := by
 rw [← sor_keys] at h ⊢
 have : (t.set n v).map key = t.map key := by
  rw [List.map_set, hk]
  apply List.ext_getElem?
  intro i
  by_cases hin : n = i
  ·subst hin
   obtain ⟨hl, -⟩ := List.getElem?_eq_some_iff.1 hx
   rw [List.getElem?_set_self (by rw [List.length_map]; exact hl), List.getElem?_map, hx]
   rfl
  ·rw [List.getElem?_set_ne hin]
 rw [this]
 exact h
theorem set_put {t : List α} (h : Sor key t) {n : Nat} {x v : α} (hx : t[n]? = some x) (hk : key v = key x) : t.set n v = putG key v t := by
 obtain ⟨hl, -⟩ := List.getElem?_eq_some_iff.1 hx
 refine sor_ext key (sor_set key h hx hk) (sor_putG key h) (fun z => ?_)
 rw [mem_putG]
 constructor
 ·intro hz
  obtain ⟨i, hi⟩ := List.getElem?_of_mem hz
  by_cases hin : n = i
  ·subst hin
   rw [List.getElem?_set_self hl] at hi
   cases hi
   exact .inl rfl
  ·rw [List.getElem?_set_ne hin] at hi
   exact .inr ⟨List.mem_of_getElem? hi, by rw [hk]; exact sor_at key h hi hx (fun e => hin e.symm)⟩
 ·rintro (rfl | ⟨hz, hne⟩)
  ·exact List.mem_of_getElem? (List.getElem?_set_self hl)
  ·obtain ⟨i, hi⟩ := List.getElem?_of_mem hz
   have hin : n ≠ i := fun e => by
    subst e
    rw [hx] at hi
    cases hi
    exact hne hk.symm
   exact List.mem_of_getElem? (i := i) (by rw [List.getElem?_set_ne hin]; exact hi)
theorem ins_put {t : List α} (h : Sor key t) {m : Nat} {v : α} (hm : m ≤ t.length) (hlo : ∀ i x, i < m → t[i]? = some x → blt (key x) (key v) = true) (hhi : ∀ i x, m ≤ i → t[i]? = some x → blt (key v) (key x) = true) : t.take m ++ v :: t.drop m = putG key v t := by
 have hne : ∀ x ∈ t, key x ≠ key v := by
  intro x hx
  obtain ⟨i, hi⟩ := List.getElem?_of_mem hx
  by_cases hl : i < m
  ·exact blt_ne (hlo i x hl hi)
  ·exact (blt_ne (hhi i x (by omega) hi)).symm
 have h1 : ∀ x ∈ t.take m, blt (key x) (key v) = true := by
  intro x hx
  obtain ⟨i, hi⟩ := List.getElem?_of_mem hx
  obtain ⟨hl, -⟩ := List.getElem?_eq_some_iff.1 hi
  rw [List.length_take] at hl
  rw [List.getElem?_take_of_lt (by omega)] at hi
  exact hlo i x (by omega) hi
 have h2 : ∀ x ∈ t.drop m, blt (key v) (key x) = true := by
  intro x hx
  obtain ⟨i, hi⟩ := List.getElem?_of_mem hx
  rw [List.getElem?_drop] at hi
  exact hhi _ x (by omega) hi
 have hsp : t.take m ++ t.drop m = t := List.take_append_drop m t
 refine sor_ext key ?_ (sor_putG key h) (fun z => ?_)
 ·have hh := h
  unfold Sor at hh ⊢
  rw [← hsp, List.pairwise_append] at hh
  rw [List.pairwise_append, List.pairwise_cons]
  refine ⟨hh.1, ⟨h2, hh.2.1⟩, fun a ha b hb => ?_⟩
  rcases List.mem_cons.1 hb with rfl | hb
  ·exact h1 a ha
  ·exact hh.2.2 a ha b hb
 ·rw [mem_putG, List.mem_append, List.mem_cons]
  constructor
  ·rintro (h | h | h)
   ·exact .inr ⟨List.mem_of_mem_take h, hne z (List.mem_of_mem_take h)⟩
   ·exact .inl h
   ·exact .inr ⟨List.mem_of_mem_drop h, hne z (List.mem_of_mem_drop h)⟩
  ·rintro (rfl | ⟨hz, -⟩)
   ·exact .inr (.inl rfl)
   ·rw [← hsp, List.mem_append] at hz
    rcases hz with h | h
    ·exact .inl h
    ·exact .inr (.inr h)
end
structure StS (q : Nat) (V w : World) : Prop where
 off : Off (fun c => c = q) V w
 cel : ∃ a n c, Cel q 73 #[.slice a n c] w
theorem StS.step {q : Nat} {V v v' : World} {D : Nat → Prop} (h : StS q V v) (o : Off D v v') (hD : ∀ c, D c → V.heap.size ≤ c) (hq : q < V.heap.size) : StS q V v' := by
 obtain ⟨a, n, c, hc⟩ := h.cel
 exact ⟨(h.off.mono (E := fun c => c = q ∨ D c) (fun _ _ e => .inl e)).trans (o.mono (E := fun c => c = q ∨ D c) (fun _ _ e => .inr e)) (fun _ _ e => e) |>.mono (fun i hi e => e.elim id (fun hd => by have := hD i hd; omega)), a, n, c, hc.off o (fun hd => by have := hD q hd; omega)⟩
theorem StS.free {q : Nat} {V v v' : World} (h : StS q V v) (o : Off (fun _ => False) v v') (hq : q < V.heap.size) : StS q V v' := h.step o (fun _ h => h.elim) hq
theorem StS.put {q : Nat} {V v : World} (h : StS q V v) (a : Option Addr) (n c : Nat) : StS q V (v.setCell ⟨q, 0, none⟩ (.slice a n c)) := by
 obtain ⟨a0, n0, c0, hc⟩ := h.cel
 exact ⟨h.off.setCell (p := ⟨q, 0, none⟩) (.inl rfl) _, a, n, c, hc.set 0 _⟩
theorem sizeE (W : World) : (sizeOf (Try.prog.elem 22)).run Try.prog W = .ok 10 W := by
 have : Try.prog.elem 22 = 40 := by kernel_rfl
 rw [this]
 obtain ⟨i0, hi, hz0, hz1, hz2⟩ := info_parts Try.infoE
 simp [sizeOf, typeInfo, hi, hz1]
theorem Ens.slh {w : World} {a : Option Addr} {cap : Nat} {l : List E} (h : Ens w a cap l) {k : Nat} (hk : k ≤ l.length) :
  (∀ W, (Instr.slice 22 (.slice a l.length cap) none (some (.int .i64 (k : Int))) none).run Try.prog W = .ok (.slice a (l.take k).length cap) W) ∧ Ens w a cap (l.take k) := by
 have hc := h.len
 have hb := h.bound
 refine ⟨fun W => ?_, ⟨by simp; omega, hb, fun i v hi => ?_⟩⟩
 ·rw [run_slice_h (P := Try.prog) (t := 22) (ht := by kernel_rfl) (h0 := by omega) (h2 := by omega), sizeE]
  have e : (l.take k).length = k := by simp; omega
  rw [e]
  cases a <;> simp [Result.andThen, sliced, add_zero5]
 ·refine h.at_ i v ?_
  rw [List.getElem?_take] at hi
  split at hi
  ·exact hi
  ·simp at hi
theorem Ens.sll {w : World} {a : Option Addr} {cap : Nat} {l : List E} (h : Ens w a cap l) (hz : a = none → cap = 0) {k : Nat} (hk : k ≤ l.length) :
  ∃ a', (∀ W, (Instr.slice 22 (.slice a l.length cap) (some (.int .i64 (k : Int))) none none).run Try.prog W = .ok (.slice a' (l.drop k).length (cap - k)) W) ∧ Ens w a' (cap - k) (l.drop k) ∧ (a' = none → cap - k = 0) := by
 have hc := h.len
 have hb := h.bound
 refine ⟨if cap = k then a else a.map (·.add (k * 10)), fun W => ?_, ⟨by simp; omega, by omega, fun i v hi => ?_⟩, fun e => ?_⟩
 ·rw [run_slice_l (P := Try.prog) (t := 22) (ht := by kernel_rfl) (h0 := by omega) (h1 := by omega), sizeE]
  simp [Result.andThen, sliced]
 ·obtain ⟨b, off, rfl, h1, h2⟩ := h.at_ (k + i) v (by simpa using hi)
  have hl : k + i < l.length := by
   obtain ⟨h, -⟩ := List.getElem?_eq_some_iff.1 hi
   simp at h
   omega
  rw [if_neg (by omega)]
  refine ⟨b, off + k * 10, by simp [add_lit], fun j u hj => ?_, h2⟩
  rw [show off + k * 10 + i * 10 = off + (k + i) * 10 by omega]
  exact h1 j u hj
 ·split at e
  ·omega
  ·rw [Option.map_eq_none_iff] at e
   have := hz e
   omega
theorem ens_one {b : Nat} {v : E} {w : World} (h : ∀ j u, (ecs v)[j]? = some u → w.cell? ⟨b, 0 + j, none⟩ = some u) (hv : Row w v.a v.cap v.l) : Ens w (some ⟨b, 0, none⟩) 1 [v] := by
 refine ⟨by simp, by omega, fun i u hi => ?_⟩
 match i, hi with
 | 0, hi =>
  simp at hi
  subst hi
  exact ⟨b, 0, rfl, h, hv⟩
theorem cel_ens {b : Nat} {v : E} {w : World} (h : Cel b 40 #[.string v.key, .int .i64 (v.f 0), .int .i64 (v.f 1), .int .i64 (v.f 2), .int .i64 (v.f 3), .int .i64 (v.f 4), .int .i64 (v.f 5), .int .i64 (v.f 6), .int .i64 (v.f 7), .slice v.a v.l.length v.cap] w) (hv : Row w v.a v.cap v.l) : Ens w (some ⟨b, 0, none⟩) 1 [v] :=
 ens_one (fun j u hj => by
  rw [Nat.zero_add, h.cell j, ← hj, List.getElem?_toArray]
  rfl) hv
theorem lss_str {a b : ByteArray} {r : Bool} (h : Op.bytesLess a.toList b.toList = r) (t : TypeId) (w : World) : (binOp .lss t (.string a) (.string b)).run Try.prog w = .ok (.bool r) w := by
 simp [binOp, Op.stringOp, h]
theorem blt_no {a b : ByteArray} (h : blt a b = false) (hne : a ≠ b) : blt b a = true := by
 rcases blt_tot hne with e | e
 ·rw [h] at e
  cases e
 ·exact e
theorem up_all {xs : List E} (hs : Sor E.key xs) {k : ByteArray} {m : Nat} {x : E} (hx : xs[m]? = some x) (hb : blt k x.key = true) : ∀ i z, m ≤ i → xs[i]? = some z → blt k z.key = true := by
 intro i z hi hz
 by_cases e : i = m
 ·subst e
  rw [hx] at hz
  cases hz
  exact hb
 ·obtain ⟨l1, e1⟩ := List.getElem?_eq_some_iff.1 hx
  obtain ⟨l2, e2⟩ := List.getElem?_eq_some_iff.1 hz
  have := List.pairwise_iff_getElem.1 hs m i l1 l2 (by omega)
  rw [e1, e2] at this
  exact blt_trans hb this
end Go.Proofs.Ytpnnpdfmoldiiaa

namespace Go.Proofs.Ytpnnpdfmoldiiaa
open Go.RowKit
theorem cells_off10 {w w' : World} {b o : Nat} {e : E} (k : Off (fun _ => False) w w') (h : ∀ j u, (ecs e)[j]? = some u → w.cell? ⟨b, o + j, none⟩ = some u) : ∀ j u, (ecs e)[j]? = some u → w'.cell? ⟨b, o + j, none⟩ = some u := by
 intro j u hj
 have h1 := h j u hj
 rw [← h1]
 exact World.cell?_of_block (a := ⟨b, o + j, none⟩) (k.block b (cell_lt h1) (fun h => h))
theorem idx_row10 {m n : Nat} (h : n < m) (c g : Nat) (W : World) : (Instr.indexAt 22 (.slice (some ⟨g, 0, none⟩) m c) (.int .i64 (n : Int))).run Try.prog W = .ok (.pointer (some ⟨g, n * 10, none⟩)) W := by
 have := idx_ents h c g 0 W
 rw [Nat.zero_add] at this
 exact this
theorem own_cel {w : World} {g cap : Nat} {l : List E} (h : OwnG 40 10 ecs w (some ⟨g, 0, none⟩) cap l) {n : Nat} {x : E} (_ : l[n]? = some x) : ∃ cur, Cel g 40 cur w := by
 rcases h.row.2 with ⟨hv, -⟩ | ⟨g', c, cur, hv, -, hh, -⟩
 ·simp at hv
 ·simp only [Value.slice.injEq, Option.some.injEq, Addr.mk.injEq, and_true] at hv
  obtain ⟨rfl, -⟩ := hv
  exact ⟨cur, ⟨hh⟩⟩
theorem same_comm (f g : Nat → Int) (l k : List A) : sameS f g l k = sameS g f k l := by
 rw [Bool.eq_iff_iff, same_iff, same_iff]
 exact ⟨fun h => ⟨fun j hj => (h.1 j hj).symm, h.2.symm⟩, fun h => ⟨fun j hj => (h.1 j hj).symm, h.2.symm⟩⟩
end Go.Proofs.Ytpnnpdfmoldiiaa
