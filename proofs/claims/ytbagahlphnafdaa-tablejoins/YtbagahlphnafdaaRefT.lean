/- The reference's table in memory; the contracts of its At, Get, Bucket. -/
import Derived.Test.YtbagahlphnafdaaLaw10
import Derived.Test.YtbagahlphnafdaaJns
import Derived.Laws.OwnMore
import Derived.Deep.Cut
namespace Go.Proofs.Ytbagahlphnafdaa
open Go.RowKit

theorem flat_inv {α : Type} {cs : α → List Value} {size : Nat} (hcs : ∀ x, (cs x).length = size) : ∀ {l : List α} {j : Nat} {u : Value}, (l.flatMap cs)[j]? = some u → ∃ i r x, l[i]? = some x ∧ j = i * size + r ∧ (cs x)[r]? = some u
  | [], j, u, h => by simp at h
  | x :: l, j, u, h => by
    rw [List.flatMap_cons] at h
    by_cases hj : j < size
    · rw [List.getElem?_append_left (by rw [hcs]; exact hj)] at h
      exact ⟨0, j, x, rfl, by omega, h⟩
    · rw [List.getElem?_append_right (by rw [hcs]; omega), hcs] at h
      obtain ⟨i, r, y, hy, e, hu⟩ := flat_inv hcs h
      refine ⟨i + 1, r, y, by simpa using hy, ?_, hu⟩
      rw [Nat.succ_mul]
      omega
theorem Ens.news {w : World} {b : Addr} {cap : Nat} {l : List E} (h : Ens w (some b) cap l) : ∀ j u, (l.flatMap ecs)[j]? = some u → w.cell? (b.add j) = some u := by
  intro j u hj
  obtain ⟨i, r, x, hx, rfl, hu⟩ := flat_inv ecs_len hj
  obtain ⟨bb, off, e, h1, -⟩ := h.at_ i x hx
  simp only [Option.some.injEq] at e
  subst e
  rw [add_lit, ← Nat.add_assoc]
  exact h1 r u hu
theorem flat_one (l : List E) : ∀ u ∈ l.flatMap ecs, u.oneCell' = true := by
  intro u hu
  obtain ⟨x, -, hx⟩ := List.mem_flatMap.1 hu
  exact ecs_one x u hx
theorem flat_len (l : List E) : (l.flatMap ecs).length = l.length * 10 := by
  induction l with
  | nil => rfl
  | cons x l ih =>
    rw [List.flatMap_cons, List.length_append, ih, ecs_len, List.length_cons]
    omega
/-- 'append(s, x...)' of entries, s the call's own, as a run. -/
theorem app_runE {w : World} {a : Option Addr} {cap : Nat} {l : List E} (hown : OwnG 37 10 ecs w a cap l) {b : Option Addr} {cb : Nat} {k : List E} (hr : Ens w b cb k) (hz : b = none → cb = 0) (hb : l.length + k.length ≤ 1000000) (ty : TypeId) :
    ∃ a' c' w', (Builtin.append_ #[22, 22] ty #[.slice a l.length cap, .slice b k.length cb]).run Try.prog w = .ok (.slice a' (l ++ k).length c') w' ∧ OwnG 37 10 ecs w' a' c' (l ++ k) ∧ Off (fun c => blk a = some c) w w' ∧ (blk a' = blk a ∨ blk a' = some w.heap.size) := by
  obtain ⟨i0, hi, hz0, hz1, hz2⟩ := info_parts Try.infoE
  cases b with
  | none =>
    obtain rfl : cb = 0 := hz rfl
    obtain rfl : k = [] := List.eq_nil_of_length_eq_zero (by have := hr.len; omega)
    refine ⟨a, cap, w, ?_, by rw [List.append_nil]; exact hown, Off.refl _ w, .inl rfl⟩
    rw [List.append_nil]
    exact run_append_owned_none (P := Try.prog) (w := w) 0 22 ty 37 i0 10 Try.underlying22 hi _ _ _ hown.row
  | some ad =>
    obtain ⟨v', w', hrun, own', grow', -, hat⟩ := run_append_own_at (P := Try.prog) w 0 22 ty 37 i0 _ 10 104 Try.underlying22 hi hz0 hz1 hz2 rfl (by decide) _ _ _ hown.row ad k.length cb (k.flatMap ecs) (flat_len k) hr.news (flat_one k) (by unfold maxLen; omega) (by omega) (Nat.zero_le _)
    rw [← List.flatMap_append, ← List.length_append] at own'
    obtain ⟨t', c', rfl⟩ : ∃ t' c', v' = .slice t' (l ++ k).length c' := by
      rcases own'.2 with ⟨rfl, h0⟩ | ⟨g, c, cur, hv, -⟩
      · exact ⟨none, 0, by rw [h0]⟩
      · exact ⟨_, _, hv⟩
    rw [blk_own, blk_own] at hat
    rw [blk_own] at grow'
    exact ⟨t', c', w', hrun, ⟨own'⟩, (Off.refl _ w).grown grow' (fun k hk => .inl hk), hat⟩
theorem OwnG.zero {α : Type} {e : TypeId} {size : Nat} {cs : α → List Value} {w : World} {a : Option Addr} {cap : Nat} {l : List α} (h : OwnG e size cs w a cap l) : a = none → cap = 0 := by
  intro ea
  rcases h.row.2 with ⟨hv, -⟩ | ⟨g, c, cur, hv, -⟩
  · simp only [Value.slice.injEq] at hv
    exact hv.2.2
  · simp only [Value.slice.injEq] at hv
    rw [ea] at hv
    simp at hv
theorem wpList_appE {w : World} {ops : Array Oper} {rest : List Oper} {o : Oper} {a : Act} {Q : Exit → Act → World → Prop} (hgd : o.guard = none) (s x : Operand)
    (ho : o.op = .call { callee := .builtin .append, args := #[s, x], argTypes := #[22, 22] })
    (tad : Option Addr) (cap : Nat) (l : List E) (hs : a.eval s = .slice tad l.length cap) (hown : OwnG 37 10 ecs w tad cap l)
    (xt : Option Addr) (xc : Nat) (k : List E) (hx : a.eval x = .slice xt k.length xc) (hr : Ens w xt xc k) (hz : xt = none → xc = 0) (hb : l.length + k.length ≤ 1000000)
    (h : ∀ t' c' w' ys, Hid (ys = l ++ k) → OwnG 37 10 ecs w' t' c' ys → Off (fun c => blk tad = some c) w w' → (blk t' = blk tad ∨ blk t' = some w.heap.size) → wpList Try.prog ops Q rest (a.put o.dst (.slice t' ys.length c')) w') :
    wpList Try.prog ops Q (o :: rest) a w := by
  obtain ⟨a', c', w', hrun, own, off, hat⟩ := app_runE hown hr hz hb o.type
  refine wpList_plain hgd fun K' hK' => ?_
  unfold Oper.wp
  simp only [execOp, ho, resolve, invoke, builtin, Sem.run_bind, Sem.run_pure, Result.andThen_ok, List.map_toArray, List.map_cons, List.map_nil, hs, hx, hrun]
  exact hK' _ _ (h a' c' w' _ (show l ++ k = l ++ k from rfl) own off hat)

/-- The reference's table: q its struct. -/
structure RTab (q : Nat) (xs : List E) (w : World) : Prop where
  is : ∃ a cap, Cel q 30 #[.slice a xs.length cap] w ∧ Ens w a cap xs ∧ (a = none → cap = 0)
  sor : Sor E.key xs
  few : xs.length ≤ 256
theorem RTab.off {D : Nat → Prop} {q : Nat} {xs : List E} {w w' : World} (h : RTab q xs w) (o : Off D w w') (hq : ¬ D q) (hN : NoI D w) : RTab q xs w' := by
  obtain ⟨⟨a, cap, h1, h2, h3⟩, hs, hf⟩ := h
  exact ⟨⟨a, cap, h1.off o hq, h2.offD o hN, h3⟩, hs, hf⟩
theorem RTab.free {q : Nat} {xs : List E} {w w' : World} (h : RTab q xs w) (o : Off (fun _ => False) w w') : RTab q xs w' := h.off o (fun h => h) (NoI.none w)
theorem RTab.noI {q : Nat} {xs : List E} {w : World} (h : RTab q xs w) : NoI (fun c => c = q) w := by
  obtain ⟨a, cap, h1, -⟩ := h.is
  exact h1.noI (fun k n e => by cases e)
theorem RTab.row {q : Nat} {xs : List E} {w : World} (h : RTab q xs w) : ∀ e ∈ xs, Row w e.a e.cap e.l := by
  obtain ⟨a, cap, -, h2, -⟩ := h.is
  intro e he
  obtain ⟨i, hi⟩ := List.getElem?_of_mem he
  obtain ⟨_, _, _, _, h⟩ := h2.at_ i e hi
  exact h
theorem RTab.lt {q : Nat} {xs : List E} {w : World} (h : RTab q xs w) : q < w.heap.size := by
  obtain ⟨a, cap, h1, -⟩ := h.is
  exact h1.lt
theorem RTab.ncel {q : Nat} {xs : List E} {w : World} (h : RTab q xs w) {p b : Nat} {t : List E} (ht : Tab p b t w) : q ≠ b := by
  obtain ⟨a, cap, h1, -⟩ := h.is
  exact ht.ne h1
/-- What At tells. -/
def atR (xs : List E) (k : ByteArray) (r : Int) : Prop := (fndG E.key k xs = none ∧ r = -1) ∨ ∃ (n : Nat) (x : E), r = (n : Int) ∧ xs[n]? = some x ∧ x.key = k
set_option maxRecDepth 100000 in
set_option maxHeartbeats 1000000 in
theorem rat_any (q : Nat) (xs : List E) (k : ByteArray) (w : World) (h : RTab q xs w) : Calls Try.prog 33 #[.pointer (some ⟨q, 0, none⟩), .string k] w fun e w' => ∃ r : Int, e = .returned (.int .i64 r) ∧ atR xs k r ∧ Off (fun _ => False) w w' := by
  obtain ⟨⟨a, cap, h1, h2, -⟩, hs, hf⟩ := h
  have c0 : w.cell? ⟨q, 0, none⟩ = some (.slice a xs.length cap) := h1.cell 0
  have HE : Hid _ := h2
  clear h1 h2 hs
  go_enter Try.func33, Try.ntmps33
  go_wp2_with fail
  clear c0
  go_loopw [12] (fun y wr => ∃ n : Nat, y = .int .i64 (n : Int) ∧ n ≤ xs.length ∧ (∀ i x, i < n → xs[i]? = some x → x.key ≠ k) ∧ Off (fun _ => False) w wr) (fun y _ => (xs.length - intOf y).toNat)
  case atStart => exact ⟨0, rfl, by omega, fun i x hi => by omega, Off.refl _ w⟩
  case round =>
    obtain ⟨n, rfl, hn, hg, O⟩ := hrel
    have HG : Hid _ := hg
    have HO : Hid _ := O
    have hE := HE.out.off O
    clear hg O
    by_cases hlt : n < xs.length
    · have e1 : decide ((n : Int) < (xs.length : Int)) = true := decide_eq_true (by omega)
      have e2 : decide (n < xs.length) = true := decide_eq_true hlt
      obtain ⟨x, hx⟩ : ∃ x, xs[n]? = some x := ⟨_, List.getElem?_eq_getElem hlt⟩
      obtain ⟨bx, ox, rfl, kx, rx⟩ := hE.at_ n x hx
      obtain ⟨k0, k1, k2, k3, k4, k5, k6, k7, k8, k9⟩ := ent10 kx
      have hix := idx_ents hlt
      have HRX : Hid _ := rx
      clear kx rx
      clear hE
      go_upto_region 4 with fail
      have Cq6 := Cel.new wr 37 #[.string x.key, .int .i64 (x.f 0), .int .i64 (x.f 1), .int .i64 (x.f 2), .int .i64 (x.f 3), .int .i64 (x.f 4), .int .i64 (x.f 5), .int .i64 (x.f 6), .int .i64 (x.f 7), .slice x.a x.l.length x.cap]
      have OA : Off (fun _ => False) wr (wr.alloc (.cells #[.string x.key, .int .i64 (x.f 0), .int .i64 (x.f 1), .int .i64 (x.f 2), .int .i64 (x.f 3), .int .i64 (x.f 4), .int .i64 (x.f 5), .int .i64 (x.f 6), .int .i64 (x.f 7), .slice x.a x.l.length x.cap] 37)) := (Off.refl _ wr).alloc _
      generalize hq : wr.heap.size = q6 at Cq6 ⊢
      generalize hv : wr.alloc (.cells #[.string x.key, .int .i64 (x.f 0), .int .i64 (x.f 1), .int .i64 (x.f 2), .int .i64 (x.f 3), .int .i64 (x.f 4), .int .i64 (x.f 5), .int .i64 (x.f 6), .int .i64 (x.f 7), .slice x.a x.l.length x.cap] 37) = V6 at Cq6 OA ⊢
      clear hq hv
      clear k0 k1 k2 k3 k4 k5 k6 k7 k8 k9 hix
      have x0 : V6.cell? ⟨q6, 0, none⟩ = some (.string x.key) := Cq6.cell 0
      have HO6 : Hid _ := HO.out.trans OA (fun _ _ h => h)
      clear OA Cq6
      by_cases hk : x.key = k
      · have kq1 : (x.key.toList == k.toList) = true := by rw [hk]; simp
        have kq2 : x.key.toList = k.toList := by rw [hk]
        have HK : Hid _ := hk
        clear hk
        go_wp2_with fail
        go_ret
        exact ⟨(n : Int), rfl, .inr ⟨n, x, rfl, hx, HK.out⟩, HO6.out⟩
      · have kq1 : (x.key.toList == k.toList) = false := by rw [toL, toL, beq_eq_false_iff_ne]; exact fun e => hk (kb_inj e)
        have HK : Hid _ := hk
        clear hk
        go_wp2_with fail
        go_roundw
        case rel =>
          refine ⟨n + 1, by go_num, by omega, fun i y hi hy => ?_, HO6.out⟩
          by_cases e : i = n
          · subst e
            rw [hx] at hy
            cases hy
            exact HK.out
          · exact HG.out i y (by omega) hy
        case measure => simp [intOf]; omega
    · obtain rfl : n = xs.length := by omega
      have e1 : decide ((xs.length : Int) < (xs.length : Int)) = false := decide_eq_false (by omega)
      have e2 : decide (xs.length < xs.length) = false := decide_eq_false (by omega)
      go_wp2_with fail
      go_ret
      refine ⟨-1, rfl, .inl ⟨(fnd_none E.key).2 (fun x hx => ?_), rfl⟩, HO.out⟩
      obtain ⟨i, hi⟩ := List.getElem?_of_mem hx
      have : i < xs.length := by
        obtain ⟨h, -⟩ := List.getElem?_eq_some_iff.1 hi
        exact h
      exact HG.out i x this hi
theorem at_fnd {xs : List E} (hs : Sor E.key xs) {k : ByteArray} {n : Nat} {x : E} (hx : xs[n]? = some x) (hk : x.key = k) : fndG E.key k xs = some x := (fnd_some E.key hs).2 ⟨List.mem_of_getElem? hx, hk⟩
set_option maxRecDepth 100000 in
set_option maxHeartbeats 1000000 in
theorem rget_any (q : Nat) (xs : List E) (k : ByteArray) (w : World) (h : RTab q xs w) : Calls Try.prog 22 #[.pointer (some ⟨q, 0, none⟩), .string k] w fun e w' => e = .returned (.tuple #[.agg #[.int .i64 ((getE xs k).f 0), .int .i64 ((getE xs k).f 1), .int .i64 ((getE xs k).f 2), .int .i64 ((getE xs k).f 3), .int .i64 ((getE xs k).f 4), .int .i64 ((getE xs k).f 5), .int .i64 ((getE xs k).f 6), .int .i64 ((getE xs k).f 7), .slice (getE xs k).a (getE xs k).l.length (getE xs k).cap], .bool (fndG E.key k xs).isSome]) ∧ Row w' (getE xs k).a (getE xs k).cap (getE xs k).l ∧ Off (fun _ => False) w w' := by
  obtain ⟨W, hW⟩ : ∃ W, W = w.alloc (.cells #[.int .i64 (zer 0), .int .i64 (zer 1), .int .i64 (zer 2), .int .i64 (zer 3), .int .i64 (zer 4), .int .i64 (zer 5), .int .i64 (zer 6), .int .i64 (zer 7), .slice none 0 0] 35) := ⟨_, rfl⟩
  have O : Off (fun _ => False) w W := by rw [hW]; exact (Off.refl _ w).alloc _
  have C : Cel w.heap.size 35 #[.int .i64 (zer 0), .int .i64 (zer 1), .int .i64 (zer 2), .int .i64 (zer 3), .int .i64 (zer 4), .int .i64 (zer 5), .int .i64 (zer 6), .int .i64 (zer 7), .slice none 0 0] W := by rw [hW]; exact Cel.new w _ _
  have HT : Hid _ := h
  have HTW : Hid _ := h.free O
  have HO : Hid _ := O
  have HC : Hid _ := C
  have HW : Hid _ := hW
  clear h O C hW
  go_enter Try.func22, Try.ntmps22
  go_upto_region 1 with fail
  rw [show (w.alloc (.cells #[.int .i64 0, .int .i64 0, .int .i64 0, .int .i64 0, .int .i64 0, .int .i64 0, .int .i64 0, .int .i64 0, .slice none 0 0] 35)) = W from HW.out.symm]
  go_wp2_with fail
  refine (rat_any q xs k _ HTW.out).mono ?_
  rintro e w1 ⟨r, rfl, hr, o1⟩
  have HT1 : Hid _ := HTW.out.free o1
  have HO1 : Hid _ := HO.out.trans o1 (fun _ _ h => h)
  have HC1 : Hid _ := HC.out.off o1 (fun h => h)
  clear o1
  obtain ⟨z0, z1, z2, z3, z4, z5, z6, z7, z8⟩ := cel9 HC1.out
  have fr := HC1.out.free
  rcases hr with ⟨hf, rfl⟩ | ⟨n, x, rfl, hx, hk⟩
  · have HG : Hid (getE xs k = zE k) := by show _ = _; unfold getE; rw [hf]; rfl
    have HF : Hid _ := hf
    clear hf
    go_wp2_with fail
    refine bodyPost_ret (results_sibs2 rfl rfl rfl (HC1.out.st9 zer (.slice none 0 0))) rfl ?_
    rw [HG.out, HF.out]
    exact ⟨rfl, Row.nil _ none 0 (by omega), HO1.out.st9 (.inr (Nat.le_refl _)) zer (.slice none 0 0)⟩
  · have hf := at_fnd HT.out.sor hx hk
    have HG : Hid (getE xs k = x) := by show _ = _; unfold getE; rw [hf]; rfl
    have HF : Hid _ := hf
    obtain ⟨a, cap, h1, h2, -⟩ := HT1.out.is
    have c0 : w1.cell? ⟨q, 0, none⟩ = some (.slice a xs.length cap) := h1.cell 0
    have hlt : n < xs.length := by
      obtain ⟨h, -⟩ := List.getElem?_eq_some_iff.1 hx
      exact h
    obtain ⟨bx, ox, rfl, kx, -⟩ := h2.at_ n x hx
    obtain ⟨k0, k1, k2, k3, k4, k5, k6, k7, k8, k9⟩ := ent10 kx
    have hix := idx_ents hlt
    have d1 : decide ((0 : Int) ≤ (n : Int)) = true := decide_eq_true (by omega)
    have HX : Hid _ := hx
    clear h1 h2 kx hf hx hk
    go_wp2_with fail
    refine bodyPost_ret (results_sibs2 rfl rfl rfl (HC1.out.st9 x.f (.slice x.a x.l.length x.cap))) rfl ?_
    have OZ := HO1.out.st9 (b := w.heap.size) (.inr (Nat.le_refl _)) x.f (.slice x.a x.l.length x.cap)
    rw [HG.out, HF.out]
    exact ⟨rfl, (HT.out.row x (List.mem_of_getElem? HX.out)).off OZ, OZ⟩
set_option maxRecDepth 100000 in
set_option maxHeartbeats 1000000 in
theorem rbuckett_any (q : Nat) (xs : List E) (bb : Int) (w : World) (h : RTab q xs w) (hk : ∀ e ∈ xs, e.key.size ≤ 32) : Calls Try.prog 20 #[.pointer (some ⟨q, 0, none⟩), .int .i64 bb] w fun e w' => ∃ (a : Option Addr) (c : Nat) (es : List E), e = .returned (.slice a es.length c) ∧ es = xs.filter (fun e => decide (((bkt (tx e.key) : Nat) : Int) = bb)) ∧ OwnG 37 10 ecs w' a c es ∧ Off (fun _ => False) w w' := by
  obtain ⟨⟨a, cap, h1, h2, -⟩, hs, hf⟩ := h
  have c0 : w.cell? ⟨q, 0, none⟩ = some (.slice a xs.length cap) := h1.cell 0
  have HE : Hid _ := h2
  have HK : Hid _ := hk
  clear h1 h2 hs hk
  go_enter Try.func20, Try.ntmps20
  go_wp2_with fail
  clear c0
  go_loopw [5, 13] (fun y z wr => ∃ (n : Nat) (to : Option Addr) (co : Nat) (es : List E), y = .slice to es.length co ∧ z = .int .i64 (n : Int) ∧ n ≤ xs.length ∧ es = (xs.take n).filter (fun e => decide (((bkt (tx e.key) : Nat) : Int) = bb)) ∧ OwnG 37 10 ecs wr to co es ∧ (∀ x, blk to = some x → w.heap.size ≤ x) ∧ Off (fun _ => False) w wr) (fun _ z _ => (xs.length - intOf z).toNat)
  case atStart => exact ⟨0, none, 0, [], rfl, rfl, by omega, rfl, OwnG.nil _ _ _ _, fun x hx => by simp [blk] at hx, Off.refl _ w⟩
  case round =>
    obtain ⟨n, to, co, es, rfl, rfl, hn, hes, hog, hnw, O⟩ := hrel
    have HEL : Hid (es.length ≤ 256) := by
      have e2 := List.length_filter_le (fun e : E => decide (((bkt (tx e.key) : Nat) : Int) = bb)) (xs.take n)
      rw [← hes, List.length_take] at e2
      show _ ≤ _
      omega
    have HES : Hid _ := hes
    have HOG : Hid _ := hog
    have HNW : Hid _ := hnw
    have HO : Hid _ := O
    have hE := HE.out.off O
    clear hes hog hnw O
    by_cases hlt : n < xs.length
    · have e1 : decide ((n : Int) < (xs.length : Int)) = true := decide_eq_true (by omega)
      have e2 : decide (n < xs.length) = true := decide_eq_true hlt
      obtain ⟨x, hx⟩ : ∃ x, xs[n]? = some x := ⟨_, List.getElem?_eq_getElem hlt⟩
      obtain ⟨bx, ox, rfl, kx, rx⟩ := hE.at_ n x hx
      obtain ⟨k0, k1, k2, k3, k4, k5, k6, k7, k8, k9⟩ := ent10 kx
      have hix := idx_ents hlt
      have HRX : Hid _ := rx
      clear kx rx
      clear hE
      go_upto_region 5 with fail
      have Cq7 := Cel.new wr 37 #[.string x.key, .int .i64 (x.f 0), .int .i64 (x.f 1), .int .i64 (x.f 2), .int .i64 (x.f 3), .int .i64 (x.f 4), .int .i64 (x.f 5), .int .i64 (x.f 6), .int .i64 (x.f 7), .slice x.a x.l.length x.cap]
      have OA : Off (fun _ => False) wr (wr.alloc (.cells #[.string x.key, .int .i64 (x.f 0), .int .i64 (x.f 1), .int .i64 (x.f 2), .int .i64 (x.f 3), .int .i64 (x.f 4), .int .i64 (x.f 5), .int .i64 (x.f 6), .int .i64 (x.f 7), .slice x.a x.l.length x.cap] 37)) := (Off.refl _ wr).alloc _
      generalize hq : wr.heap.size = q7 at Cq7 ⊢
      generalize hv : wr.alloc (.cells #[.string x.key, .int .i64 (x.f 0), .int .i64 (x.f 1), .int .i64 (x.f 2), .int .i64 (x.f 3), .int .i64 (x.f 4), .int .i64 (x.f 5), .int .i64 (x.f 6), .int .i64 (x.f 7), .slice x.a x.l.length x.cap] 37) = V7 at Cq7 OA ⊢
      clear hq hv
      clear k0 k1 k2 k3 k4 k5 k6 k7 k8 k9 hix
      have x0 : V7.cell? ⟨q7, 0, none⟩ = some (.string x.key) := Cq7.cell 0
      have HQ7 : Hid _ := Cq7
      have HO7 : Hid _ := HO.out.trans OA (fun _ _ h => h)
      have HOG7 : Hid _ := HOG.out.off OA (fun _ _ _ h => h)
      have hxs := HK.out x (List.mem_of_getElem? hx)
      clear OA Cq7
      go_wp2_with fail
      clear x0
      refine (rbucket_any x.key (by omega) _).mono ?_
      rintro e w8 ⟨rfl, hw8⟩
      rw [hw8]
      clear hw8 w8
      cases hp : decide (((bkt (tx x.key) : Nat) : Int) = bb)
      · have hq : (((bkt (tx x.key) : Nat) : Int) == bb) = false := by rw [beq_eq_false_iff_ne]; exact of_decide_eq_false hp
        go_wp2_with fail
        go_roundw
        case rel =>
          refine ⟨n + 1, to, co, es, rfl, by go_num, by omega, ?_, HOG7.out, HNW.out, HO7.out⟩
          rw [HES.out, List.take_add_one, hx, List.filter_append]
          simp [hp]
        case measure => simp [intOf]; omega
      · have hq : (((bkt (tx x.key) : Nat) : Int) == bb) = true := by rw [beq_iff_eq]; exact of_decide_eq_true hp
        obtain ⟨x0, x1, x2, x3, x4, x5, x6, x7, x8, x9⟩ := cel10 HQ7.out
        have G : Cel V7.heap.size 37 #[.string x.key, .int .i64 (x.f 0), .int .i64 (x.f 1), .int .i64 (x.f 2), .int .i64 (x.f 3), .int .i64 (x.f 4), .int .i64 (x.f 5), .int .i64 (x.f 6), .int .i64 (x.f 7), .slice x.a x.l.length x.cap] (V7.alloc (.cells #[.string x.key, .int .i64 (x.f 0), .int .i64 (x.f 1), .int .i64 (x.f 2), .int .i64 (x.f 3), .int .i64 (x.f 4), .int .i64 (x.f 5), .int .i64 (x.f 6), .int .i64 (x.f 7), .slice x.a x.l.length x.cap] 37)) := Cel.new V7 _ _
        have OA : Off (fun _ => False) V7 (V7.alloc (.cells #[.string x.key, .int .i64 (x.f 0), .int .i64 (x.f 1), .int .i64 (x.f 2), .int .i64 (x.f 3), .int .i64 (x.f 4), .int .i64 (x.f 5), .int .i64 (x.f 6), .int .i64 (x.f 7), .slice x.a x.l.length x.cap] 37)) := (Off.refl _ V7).alloc _
        have G2 : ∀ j u, (ecs x)[j]? = some u → (V7.alloc (.cells #[.string x.key, .int .i64 (x.f 0), .int .i64 (x.f 1), .int .i64 (x.f 2), .int .i64 (x.f 3), .int .i64 (x.f 4), .int .i64 (x.f 5), .int .i64 (x.f 6), .int .i64 (x.f 7), .slice x.a x.l.length x.cap] 37)).cell? ⟨V7.heap.size, j, none⟩ = some u := fun j u hj => by
          rw [G.cell j, ← hj, List.getElem?_toArray]
          rfl
        have HG2 : Hid _ := G2
        have HOA : Hid _ := OA
        clear G G2 OA
        go_wp2_with (at_builtin; refine wpList_appG (cs := ecs) rfl (.tmp 22) (.tmp 24) Try.underlying22 Try.infoE rfl (by decide) (by decide) ecs_len ecs_one rfl to co es rfl (HOG7.out.off HOA.out (fun _ _ _ h => h)) V7.heap.size 1 x rfl HG2.out (by have := HEL.out; omega) ?_; intro to' co' w3 ys hys own3 o3 at3; have HOWN3 : Hid _ := own3; have HO3 : Hid _ := o3; have HAT : Hid _ := at3; clear own3 o3 at3)
        go_roundw
        case rel =>
          have fo : Off (fun c => blk to = some c) V7 w3 := (HOA.out.mono (fun _ _ h => h.elim)).trans HO3.out (fun _ _ h => h)
          have hat : blk to' = blk to ∨ blk to' = some (V7.heap.size + 1) := by
            have e := HAT.out
            simpa [World.size_alloc] using e
          have hsz : w.heap.size ≤ V7.heap.size := HO7.out.size
          refine ⟨n + 1, to', co', ys, rfl, by go_num, by omega, ?_, HOWN3.out, ?_, HO7.out.trans fo (fun i hi h => by have := HNW.out i h; omega)⟩
          · rw [hys.out, HES.out, List.take_add_one, hx, List.filter_append]
            simp [hp]
          · intro c hc
            rcases hat with h | h
            · exact HNW.out c (h ▸ hc)
            · rw [h] at hc
              simp at hc
              omega
        case measure => simp [intOf]; omega
    · obtain rfl : n = xs.length := by omega
      have e1 : decide ((xs.length : Int) < (xs.length : Int)) = false := decide_eq_false (by omega)
      have e2 : decide (xs.length < xs.length) = false := decide_eq_false (by omega)
      go_wp2_with fail
      go_ret
      exact ⟨to, co, es, rfl, by rw [HES.out, List.take_length], HOG.out, HO.out⟩
end Go.Proofs.Ytbagahlphnafdaa
