/- The walk of FrameJoins. -/
import Derived.Test.YtjhhplagnnkpeabRws
import Derived.Laws.Concat
namespace Go.Proofs.Ytjhhplagnnkpeab
open Go.RowKit

theorem strOf_size (a : List Nat) : (strOf a).size = a.length := by simp [strOf, strOfNums_size]
theorem strOf_app (a b : List Nat) : strOf a ++ strOf b = strOf (a ++ b) := by
  apply ByteArray.ext
  simp [strOf, strOfNums]

theorem flat_len {α : Type} {cs : α → List Value} {size : Nat} (hcs : ∀ x, (cs x).length = size) (m : List α) : (m.flatMap cs).length = m.length * size := by
  induction m with
  | nil => simp
  | cons x m ih => rw [List.flatMap_cons, List.length_append, hcs, ih, List.length_cons, Nat.succ_mul]; omega
/-- 'append(s, x...)' of rows, s the call's own, as a run. -/
theorem appG_run {α : Type} {t e : TypeId} {size bytes : Nat} {z : Value} {cs : α → List Value}
    (hu : Try.prog.underlying t = some (.slice e)) (hinfo : (Try.prog.info? e).map (fun i => (i.zero, i.size, i.bytes)) = some (some z, size, bytes)) (hz : z.cells.size = size) (hsz : 0 < size) (hby : bytes ≤ 1000) (hcs : ∀ x, (cs x).length = size) (h1 : ∀ x, ∀ u ∈ cs x, u.oneCell' = true)
    {w : World} {tad : Option Addr} {cap : Nat} {l : List α} (own : OwnG e size cs w tad cap l) {xt : Option Addr} {xc : Nat} {m : List α} (src : OwnG e size cs w xt xc m) (hb : l.length + m.length ≤ 1000000) (ty : TypeId) :
    ∃ t' c' w', (Builtin.append_ #[t, t] ty #[.slice tad l.length cap, .slice xt m.length xc]).run Try.prog w = .ok (.slice t' (l ++ m).length c') w' ∧ OwnG e size cs w' t' c' (l ++ m) ∧ Off (fun c => blk tad = some c) w w' ∧ (blk t' = blk tad ∨ blk t' = some w.heap.size) := by
  obtain ⟨i0, hi, hz0, hz1, hz2⟩ := info_parts hinfo
  rcases src.row.2 with ⟨hv, h0⟩ | ⟨g, c, cur, hv, -⟩
  · simp only [Value.slice.injEq] at hv
    obtain rfl : m = [] := List.eq_nil_of_length_eq_zero h0
    obtain ⟨rfl, -, rfl⟩ := hv
    refine ⟨tad, cap, w, ?_, by rw [List.append_nil]; exact own, Off.refl _ w, .inl rfl⟩
    rw [List.append_nil]
    exact run_append_owned_none (P := Try.prog) (w := w) 0 t ty e i0 size hu hi _ _ _ own.row
  · simp only [Value.slice.injEq] at hv
    obtain ⟨rfl, -, rfl⟩ := hv
    have hbm : (l.length + m.length) * bytes ≤ 140737488355328 := Nat.le_trans (Nat.mul_le_mul_left _ hby) (by omega)
    obtain ⟨v', w', hr, own', grow', -, hat⟩ := run_append_own_at (P := Try.prog) w 0 t ty e i0 z size bytes hu hi hz0 hz1 hz2 hz hsz _ _ _ own.row ⟨g, 0, none⟩ m.length xc (m.flatMap cs) (flat_len hcs m) (World.ownsRow.cells src.row (g := g) rfl) (fun u hu => by
      simp only [List.mem_flatMap] at hu
      obtain ⟨x, -, hu⟩ := hu
      exact h1 x u hu) (by unfold maxLen; omega) hbm (Nat.zero_le _)
    rw [← List.flatMap_append, ← List.length_append] at own'
    obtain ⟨t', c', rfl⟩ : ∃ t' c', v' = .slice t' (l ++ m).length c' := by
      rcases own'.2 with ⟨rfl, h0⟩ | ⟨g, c, cur, hv, -⟩
      · exact ⟨none, 0, by rw [h0]⟩
      · exact ⟨_, _, hv⟩
    rw [blk_own, blk_own] at hat
    rw [blk_own] at grow'
    exact ⟨t', c', w', hr, ⟨own'⟩, (Off.refl _ w).grown grow' (fun k hk => .inl hk), hat⟩
theorem wp_append_if {P : Program} {o : Oper} {a : Act} {w w' : World} {K : Act → World → Prop} {Q : Exit → Act → World → Prop} {y : Nat → Option Bool} {E : Prop} (hw : Region.wanted o y = true) (s x : Operand) {t u : TypeId}
    (ho : o.op = .call { callee := .builtin .append, args := #[s, x], argTypes := #[t, u] }) {v v' X : Value} (hs : a.eval s = v) (hx : a.eval x = X) (hr : (Builtin.append_ #[t, u] o.type #[v, X]).run P w = .ok v' w')
    (d : Nat) (hd : o.dst = some d) (h : K (a.put (some d) v') w') : if Region.wanted o y = true then Oper.wp P o a w K Q else E := by
  rw [if_pos hw]
  unfold Oper.wp execOp
  simp only [ho, resolve, invoke, builtin, Sem.run_bind, Sem.run_pure, Result.andThen_ok, List.map_toArray, List.map_cons, List.map_nil, hs, hx, hr]
  rw [← hd] at h
  exact h

set_option maxRecDepth 100000 in
set_option maxHeartbeats 1000000 in
theorem put1_any {w : World} {tx : Option Addr} {cx : Nat} {xs : List Nat} (hx : Inp w tx cx xs) (hl : xs.length ≤ 100000) {a : Option Addr} (cap : Nat) {bl : List B} (hb : ArgL w a bl) :
    Calls Try.prog 4 #[.slice tx xs.length cx, .slice a bl.length cap] w fun e w' => ∃ t c, e = .returned (.slice t (xs ++ frs (smL (bl.map B.data))).length c) ∧ Inp w' t c (xs ++ frs (smL (bl.map B.data))) ∧ Off (fun _ => False) w w' := by
  have HA : Hid _ := hb
  have HIX : Hid _ := hx
  clear hb hx
  go_enter Try.func4, Try.ntmps4
  go_wp2_with fail
  refine (smallR_any cap HA.out).mono ?_
  rintro e v0 ⟨tr, cr, sl, rfl, RW, -, hd, O0⟩
  have HRW : Hid _ := RW
  have HO0 : Hid _ := O0
  have s20 := RW.len
  have HD : Hid (frs (smL (bl.map B.data)) = fr sl sl.length) := by
    show frs (smL (bl.map B.data)) = fr sl sl.length
    rw [fr_all, hd]
  clear RW O0 HA hd
  go_wp2_with fail
  go_loopw [0, 10] (fun x y wr => ∃ (i : Nat) (t : Option Addr) (c : Nat), y = .int .i64 (i : Int) ∧ x = .slice t (xs ++ fr sl i).length c ∧ i ≤ sl.length ∧ Inp wr t c (xs ++ fr sl i) ∧ Off (fun _ => False) v0 wr) (fun _ y _ => (sl.length - intOf y).toNat)
  case atStart => exact ⟨0, tx, cx, rfl, by rw [fr_zero, List.append_nil], by omega, by rw [fr_zero, List.append_nil]; exact HIX.out.free HO0.out, Off.refl _ _⟩
  case round =>
    obtain ⟨i, t, c, rfl, rfl, hi, inp, O⟩ := hrel
    have HI : Hid _ := inp
    have HO : Hid _ := O
    clear inp O
    by_cases hlt : i < sl.length
    · have e1 : decide ((i : Int) < (sl.length : Int)) = true := decide_eq_true (by omega)
      have e2 : decide (i < sl.length) = true := decide_eq_true hlt
      obtain ⟨x, g, hx, hm, rfl, kc⟩ := (HRW.out.off HO.out).at_ hlt
      have HST : Hid (xs ++ fr sl i ++ frm x.data = xs ++ fr sl (i + 1)) := by
        show xs ++ fr sl i ++ frm x.data = xs ++ fr sl (i + 1)
        rw [fr_succ hx, List.append_assoc]
      have IX : Hid _ := (HRW.out.inp x hm).free HO.out
      have l5 := HRW.out.five x hm
      have lf : (xs ++ fr sl i).length ≤ 200000 := by
        rw [List.length_append]
        have := HRW.out.fr_len i
        omega
      clear hx hm
      have P1 : Hid _ := put_any HI.out IX.out (by omega) (by omega)
      have HLT : Hid _ := HI.out.lt
      rw [HST.out] at P1
      generalize xs ++ fr sl i = ys at *
      have HLX : Hid (∀ y ∈ xs ++ fr sl (i + 1), y < 256) := fun y hy => by
        rw [← HST.out] at hy
        rcases List.mem_append.1 hy with h | h
        · exact HLT.out y h
        · exact frm_lt IX.out.lt y h
      go_wp2_with fail
      refine Calls.mono P1.out ?_
      rintro e w1 ⟨t1, c1, rfl, R1, -, O1⟩
      have HR1 : Hid _ := R1
      have HO1 : Hid _ := O1
      clear P1 R1 O1 kc
      go_wp2_with fail
      go_roundw
      case rel => exact ⟨i + 1, t1, c1, by go_num, by first | rfl | rw [List.length_append], by omega, HR1.out.inp HLX.out, HO.out.trans HO1.out (fun _ _ h => h)⟩
      case measure => simp [intOf]; omega
    · have e1 : decide ((i : Int) < (sl.length : Int)) = false := decide_eq_false (by omega)
      have e2 : decide (i < sl.length) = false := decide_eq_false hlt
      have hil : i = sl.length := by omega
      have HIL : Hid _ := hil
      clear hil
      go_wp2_with fail
      go_ret
      rw [HD.out, ← HIL.out]
      exact ⟨t, c, rfl, HI.out, HO0.out.trans HO.out (fun _ _ h => h)⟩

theorem recs {w : World} {a : Option Addr} {bl : List B} (h : ArgL w a bl) : ∀ r ∈ smL (bl.map B.data), Rec r := by
  intro r hr
  have h1 := List.mem_filter.1 hr
  have h2 := List.mem_of_mem_take h1.1
  simp only [List.mem_map] at h2
  obtain ⟨x, hx, rfl⟩ := h2
  exact ⟨by have := of_decide_eq_true h1.2; omega, (h.inp x hx).lt⟩
theorem frs20 (l : List (List Nat)) : (frs (smL l)).length ≤ 10160 := by
  have h1 := frs_len (rs := smL l) (n := 500) (fun r hr => of_decide_eq_true (List.mem_filter.1 hr).2)
  have h2 := smL_len l
  omega
/-- What was read before, behind what turned younger blocks alone. -/
theorem Inp.young {D : Nat → Prop} {w W w' : World} {t : Option Addr} {c : Nat} {bs : List Nat} (h : Inp w t c bs) (o1 : Off (fun _ => False) w W) (o2 : Off D W w') (hD : ∀ k, D k → w.heap.size ≤ k) : Inp w' t c bs := by
  refine ⟨?_, h.cap, h.lt⟩
  rcases h.old with rfl | h1
  · rcases h.src.is with h | ⟨ad, rfl, -⟩
    · exact ⟨.inl h⟩
    · exact ⟨.inr ⟨ad, rfl, fun j u hj => by simp [vl] at hj⟩⟩
  · exact (h.free o1).src.off o2 (fun k _ e hd => by have := h1 k e; have := hD k hd; omega)

set_option maxRecDepth 100000 in
set_option maxHeartbeats 4000000 in
theorem joins_walk (a : Option Addr) (cap : Nat) (bl : List B) (b : Option Addr) (kap : Nat) (kl : List B) (w : World) (ha : ArgL w a bl) (hb : ArgL w b kl) :
    Calls Try.prog 3 #[.slice a bl.length cap, .slice b kl.length kap] w fun e w' => e = .returned (.bool true) ∧ Off (fun _ => False) w w' := by
  have HA : Hid _ := ha
  have HB : Hid _ := hb
  clear ha hb
  go_enter Try.func3, Try.ntmps3
  go_wp2_with fail
  refine (put1_any (Inp.nil w) (by simp) cap HA.out).mono ?_
  rw [List.nil_append]
  rintro e v0 ⟨tx, cx, rfl, IX, O0⟩
  have HSA : Hid (∀ r ∈ smL (bl.map B.data), Rec r) := recs HA.out
  have HSB : Hid (∀ r ∈ smL (kl.map B.data), Rec r) := recs HB.out
  have lx : (frs (smL (bl.map B.data))).length ≤ 10160 := frs20 _
  have ly : (frs (smL (kl.map B.data))).length ≤ 10160 := frs20 _
  have HIX0 : Hid _ := IX
  have HO0 : Hid _ := O0
  clear IX O0
  generalize hxs : frs (smL (bl.map B.data)) = xs at *
  have HXS : Hid _ := hxs
  clear hxs
  go_wp2_with fail
  refine (put1_any (Inp.nil v0) (by simp) kap (HB.out.off HO0.out)).mono ?_
  rw [List.nil_append]
  rintro e v1 ⟨ty, cy, rfl, IY, O1⟩
  generalize hys : frs (smL (kl.map B.data)) = ys at *
  have HYS : Hid _ := hys
  clear hys
  have HIX1 : Hid _ := HIX0.out.free O1
  have HIY1 : Hid _ := IY
  have F1 : Hid _ := HO0.out.trans O1 (fun _ _ h => h)
  clear IY O1 HIX0 HO0
  have L0 : OwnR (v1.alloc (.cells #[] 5)) (some ⟨v1.heap.size, 0, none⟩) 0 [] := ⟨World.ownsRow_lit v1 #[] 0 (Nat.zero_le _) (by decide) rfl⟩
  have OA : Off (fun _ => False) v1 (v1.alloc (.cells #[] 5)) := (Off.refl _ v1).alloc _
  have SXA := (HIX1.out.free OA).src
  go_wp2_with (at_builtin; first | (refine wpList_app rfl (.tmp 18) (.tmp 19) rfl _ 0 [] rfl L0 tx cx xs rfl SXA (by simp; omega) ?_; intro t4 c4 w4 y4 hy4 R4 O4 at4; have l4 : y4.length ≤ 10160 := (by rw [hy4.out, List.nil_append]; exact lx); have SY4 : Src w4 ty cy ys := (HIY1.out.young OA O4 (fun k e => (by simp [blk] at e; omega))).src) | (refine wpList_app rfl (.tmp 20) (.tmp 21) rfl t4 c4 y4 rfl R4 ty cy ys rfl SY4 (by omega) ?_; intro t5 c5 w5 zs hzs R5 O5 at5))
  have ezs : zs = xs ++ ys := by rw [hzs.out, hy4.out, List.nil_append]
  have lo4 : ∀ k, blk t4 = some k → v1.heap.size ≤ k := fun k hk => by
    rcases at4 with e | e
    · rw [e] at hk
      simp [blk] at hk
      omega
    · rw [e] at hk
      simp at hk
      omega
  have o4 : Off (fun _ => False) v1 w4 := ((OA.mono (fun _ _ h => h.elim)).trans O4 (fun _ _ h => h)).mono (fun j hj e => by simp [blk] at e; omega)
  have o5 : Off (fun _ => False) v1 w5 := ((o4.mono (fun _ _ h => h.elim)).trans O5 (fun _ _ h => h)).mono (fun j hj e => by have := lo4 j e; omega)
  have HZS : Hid (xs ++ ys = zs) := ezs.symm
  have HLZ : Hid (∀ x ∈ zs, x < 256) := fun x hx => by
    rw [ezs] at hx
    rcases List.mem_append.1 hx with h | h
    · exact HIX1.out.lt x h
    · exact HIY1.out.lt x h
  have lz : zs.length ≤ 20320 := by rw [ezs, List.length_append]; omega
  have HALL : Hid (Al zs (smL (bl.map B.data) ++ smL (kl.map B.data)) zs.length 0) := by
    have := al_frs (rs := smL (bl.map B.data) ++ smL (kl.map B.data)) (fun r hr => by
      rcases List.mem_append.1 hr with h | h
      · exact HSA.out r h
      · exact HSB.out r h)
    rw [frs_append, HXS.out, HYS.out, HZS.out] at this
    exact this
  have HNN : Hid ((xs.length : Int) + (ys.length : Int) = (zs.length : Int)) := by
    show (xs.length : Int) + (ys.length : Int) = (zs.length : Int)
    rw [ezs, List.length_append]
    omega
  have HIX5 : Hid _ := HIX1.out.free o5
  have HIY5 : Hid _ := HIY1.out.free o5
  have F5 : Hid _ := F1.out.trans o5 (fun _ _ h => h)
  have IZ : Hid _ := R5.inp HLZ.out
  clear ezs lo4 o4 o5 hzs hy4 R4 O4 at4 l4 SY4 R5 O5 at5 SXA OA L0 HIX1 HIY1 F1
  refine (all_any IZ.out (by omega)).mono ?_
  rintro e v2 ⟨t3, c3, rl, nn, er, rfl, OG, -, HB5, HAL5, O2⟩
  obtain ⟨hd, hn, he⟩ := HAL5.uniq HALL.out
  have HEQ : Hid _ := hd
  have hnn : (nn : Int) = (xs.length : Int) + (ys.length : Int) := by rw [hn]; exact HNN.out.symm
  have hn2 : nn ≤ 20320 := by rw [hn]; exact lz
  have ewn : IntKind.i64.wrap (nn : Int) = (nn : Int) := by rw [IntKind.wrap_i64]; omega
  have hw1 : (xs.length : Int) + (ys.length : Int) = (nn : Int) := hnn.symm
  subst he
  have HOG : Hid _ := OG
  have HBB : Hid _ := HB5
  have F2 : Hid _ := F5.out.trans O2 (fun _ _ h => h)
  have HIX : Hid _ := HIX5.out.free O2
  have HSX : Hid _ := HIX.out.src
  have HSY : Hid _ := (HIY5.out.free O2).src
  have HAL : Hid _ := HA.out.off F2.out
  have HKL : Hid _ := HB.out.off F2.out
  have z1 := strOf_size xs
  have z2 := strOf_size ys
  have z3 := strOf_app xs ys
  rw [HZS.out] at z3
  have n1 : ¬ (xs.length + ys.length > 9223372036854775807) := by omega
  clear OG HB5 HAL5 O2 hd hn hnn HNN HALL HIX5 HIY5 F5 IZ HLZ HA HB HSA HSB
  go_upto_region 4 with fail
  refine wp_region_held_drew (S := fun w' => Off (fun _ => False) v2 w') (by kernel_rfl) ((Off.refl _ v2).drew) (fun hS => ?_)
  generalize hdr : v2.drew = v3 at hS ⊢
  clear hdr
  refine take_at (i := 0) 27 (v := .int .i64 0) rfl rfl (by kernel_rfl) (by kernel_rfl) (by kernel_rfl) (fun _ _ _ h => h) (Or.inl ⟨by rfl, fun w' hw' => by go_simp⟩) hS ?_
  simp only [Act.put, List.setIfInBounds_toArray, List.set_cons_zero, List.set_cons_succ]
  refine take_at (i := 1) 28 (v := .bool true) rfl rfl (by kernel_rfl) (by kernel_rfl) (by kernel_rfl) (fun _ _ _ h => h) (Or.inl ⟨by rfl, fun w' hw' => by go_simp⟩) hS ?_
  simp only [Act.put, List.setIfInBounds_toArray, List.set_cons_zero, List.set_cons_succ]
  refine take_at (i := 2) 29 (v := .bool true) rfl rfl (by kernel_rfl) (by kernel_rfl) (by kernel_rfl) (fun _ _ _ h => h) (Or.inl ⟨by rfl, fun w' hw' => by go_simp⟩) hS ?_
  simp only [Act.put, List.setIfInBounds_toArray, List.set_cons_zero, List.set_cons_succ]
  refine take_at (i := 3) 30 (v := .int .i64 (nn : Int)) rfl rfl (by kernel_rfl) (by kernel_rfl) (by kernel_rfl) (fun _ _ _ h => h) (Or.inl ⟨by rfl, fun w' hw' => by go_simp⟩) hS ?_
  simp only [Act.put, List.setIfInBounds_toArray, List.set_cons_zero, List.set_cons_succ]
  refine take_at (i := 4) 31 (v := .slice tx xs.length cx) rfl rfl (by kernel_rfl) (by kernel_rfl) (by kernel_rfl) (fun _ _ _ h => h) (Or.inl ⟨by rfl, fun w' hw' => by go_simp⟩) hS ?_
  simp only [Act.put, List.setIfInBounds_toArray, List.set_cons_zero, List.set_cons_succ]
  refine take_at (i := 5) 32 (v := .int .i64 (xs.length : Int)) rfl rfl (by kernel_rfl) (by kernel_rfl) (by kernel_rfl) (fun _ _ _ h => h) (Or.inl ⟨by rfl, fun w' hw' => by go_simp⟩) hS ?_
  simp only [Act.put, List.setIfInBounds_toArray, List.set_cons_zero, List.set_cons_succ]
  refine take_at (i := 6) 33 (v := .slice ty ys.length cy) rfl rfl (by kernel_rfl) (by kernel_rfl) (by kernel_rfl) (fun _ _ _ h => h) (Or.inl ⟨by rfl, fun w' hw' => by go_simp⟩) hS ?_
  simp only [Act.put, List.setIfInBounds_toArray, List.set_cons_zero, List.set_cons_succ]
  refine take_at (i := 7) 34 (v := .int .i64 (ys.length : Int)) rfl rfl (by kernel_rfl) (by kernel_rfl) (by kernel_rfl) (fun _ _ _ h => h) (Or.inl ⟨by rfl, fun w' hw' => by go_simp⟩) hS ?_
  simp only [Act.put, List.setIfInBounds_toArray, List.set_cons_zero, List.set_cons_succ]
  refine take_at (i := 8) 35 (v := .int .i64 (nn : Int)) rfl rfl (by kernel_rfl) (by kernel_rfl) (by kernel_rfl) (fun _ _ _ h => h) (Or.inl ⟨by rfl, fun w' hw' => by go_simp⟩) hS ?_
  simp only [Act.put, List.setIfInBounds_toArray, List.set_cons_zero, List.set_cons_succ]
  refine take_at (i := 9) 36 (v := .bool true) rfl rfl (by kernel_rfl) (by kernel_rfl) (by kernel_rfl) (fun _ _ _ h => h) (Or.inl ⟨by rfl, fun w' hw' => by go_simp⟩) hS ?_
  simp only [Act.put, List.setIfInBounds_toArray, List.set_cons_zero, List.set_cons_succ]
  refine take_at (i := 10) 37 (v := .bool true) rfl rfl (by kernel_rfl) (by kernel_rfl) (by kernel_rfl) (fun _ _ _ h => h) (Or.inl ⟨by rfl, fun w' hw' => by go_simp⟩) hS ?_
  simp only [Act.put, List.setIfInBounds_toArray, List.set_cons_zero, List.set_cons_succ]
  refine take_at (i := 11) 38 (v := .bool true) rfl rfl (by kernel_rfl) (by kernel_rfl) (by kernel_rfl) (fun _ _ _ h => h) (Or.inl ⟨by rfl, fun w' hw' => by go_simp⟩) hS ?_
  simp only [Act.put, List.setIfInBounds_toArray, List.set_cons_zero, List.set_cons_succ]
  refine take_at (i := 12) 39 (v := .slice t3 rl.length c3) rfl rfl (by kernel_rfl) (by kernel_rfl) (by kernel_rfl) (fun _ _ _ h => h) (Or.inl ⟨by rfl, fun w' hw' => by go_simp⟩) hS ?_
  simp only [Act.put, List.setIfInBounds_toArray, List.set_cons_zero, List.set_cons_succ]
  refine take_at (i := 14) 41 (v := .slice a bl.length cap) rfl rfl (by kernel_rfl) (by kernel_rfl) (by kernel_rfl) (fun _ _ _ h => h) (Or.inl ⟨by rfl, fun w' hw' => by go_simp⟩) hS ?_
  simp only [Act.put, List.setIfInBounds_toArray, List.set_cons_zero, List.set_cons_succ]
  refine take_at (i := 17) 44 (v := .slice b kl.length kap) rfl rfl (by kernel_rfl) (by kernel_rfl) (by kernel_rfl) (fun _ _ _ h => h) (Or.inl ⟨by rfl, fun w' hw' => by go_simp⟩) hS ?_
  simp only [Act.put, List.setIfInBounds_toArray, List.set_cons_zero, List.set_cons_succ]
  refine wpAnyH_ready (rs := [13, 15]) (by kernel_rfl) (by simp) ?_
  refine AllReadyH.cons rfl (fun K' hK' => ?_) (AllReadyH.cons rfl (fun K' hK' => ?_) AllReadyH.nil)
  · have hSv3 := hS
    go_simp
    refine hK'.out _ _ (hS.alloc _) (fun hS => ?_)
    clear hK' K'
    have L0 : OwnG 23 1 bcs (v3.alloc (.cells #[] 23)) (some ⟨v3.heap.size, 0, none⟩) 0 [] := ⟨World.ownsRow_lit v3 #[] 0 (Nat.zero_le _) (by decide) rfl⟩
    have OL : Off (fun _ => False) v3 (v3.alloc (.cells #[] 23)) := (Off.refl _ v3).alloc _
    have hq7 : v3.heap.size < (v3.alloc (.cells #[] 23)).heap.size := by simp [World.size_alloc]
    generalize hV0 : (v3.alloc (.cells #[] 23)) = V0 at L0 OL hS hq7 ⊢
    generalize hQ : v3.heap.size = QQ at L0 hq7 ⊢
    have HQ6 : Hid (v3.heap.size ≤ QQ) := by show _ ≤ _; omega
    have HQ7 : Hid (QQ < V0.heap.size) := hq7
    clear hV0 hQ hq7
    have HQ2 : Hid (v2.heap.size ≤ QQ) := by have := HQ6.out; have := hSv3.size; show v2.heap.size ≤ QQ; omega
    refine wpAnyH_ready (rs := [15]) (by kernel_rfl) (by simp) ?_
    refine AllReadyH.cons rfl (fun K' hK' => ?_) AllReadyH.nil
    go_simp
    refine (smallB_any cap (HAL.out.off hS)).mono ?_
    rintro e v5 ⟨tp, cp, pl, rfl, RW5, hm5, -, hd5, O5⟩
    replace L0 := L0.off O5 (fun _ _ _ h => h)
    have hq5 : QQ < v5.heap.size := Nat.lt_of_lt_of_le HQ7.out O5.size
    refine hK'.out _ _ (hS.trans O5 (fun _ _ h => h)) (fun hS => ?_)
    clear hK' K'
    have HRP : Hid (∀ x ∈ pl, ∀ W, Off (fun _ => False) v2 W → Inp W x.ad x.cap x.data) := fun x hx W o => (HAL.out.inp x (hm5 x hx)).free o
    have HDP : Hid _ := hd5
    have HS5 : Hid _ := hS
    obtain ⟨t6, c6, v6, hr, own6, o6, at6⟩ := appG_run (t := 22) Try.underlying22 Try.infoBs rfl (by decide) (by decide) bcs_len bcs_one L0 RW5.own (by have := RW5.len; simp; omega) 22
    rw [List.nil_append] at hr own6
    replace o6 : Off (fun _ => False) v2 v6 := ((HS5.out.mono (fun _ _ h => h.elim)).trans o6 (fun _ _ h => h)).mono (fun j hj e => by simp [blk] at e; have := HQ2.out; omega)
    have lo6 : ∀ c, blk t6 = some c → v2.heap.size ≤ c := fun c hc => by
      rcases at6 with e | e
      · rw [e] at hc
        simp [blk] at hc
        have := HQ2.out
        omega
      · rw [e] at hc
        simp at hc
        have := HS5.out.size
        omega
    refine wpAnyH_ready (rs := [16]) (by kernel_rfl) (by simp) ?_
    refine AllReadyH.cons rfl (fun K' hK' => ?_) AllReadyH.nil
    refine wp_append_if rfl (.tmp 40) (.tmp 42) rfl rfl rfl hr 43 rfl ?_
    simp only [Act.put, List.setIfInBounds_toArray, List.set_cons_zero, List.set_cons_succ]
    refine hK'.out _ _ o6 (fun hS => ?_)
    clear hK' K' hr
    refine wpAnyH_ready (rs := [18]) (by kernel_rfl) (by simp) ?_
    refine AllReadyH.cons rfl (fun K' hK' => ?_) AllReadyH.nil
    go_simp
    refine (smallB_any kap (HKL.out.off hS)).mono ?_
    rintro e v7 ⟨tq, cq, ql, rfl, RW7, hm7, -, hd7, O7⟩
    replace own6 := own6.off O7 (fun _ _ _ h => h)
    refine hK'.out _ _ (hS.trans O7 (fun _ _ h => h)) (fun hS => ?_)
    clear hK' K'
    obtain ⟨t8, c8, v8, hr, own8, o8, at8⟩ := appG_run (t := 22) Try.underlying22 Try.infoBs rfl (by decide) (by decide) bcs_len bcs_one own6 RW7.own (by have := RW5.len; have := RW7.len; omega) 22
    have OO8 : Off (fun _ => False) v2 v8 := ((hS.mono (fun _ _ h => h.elim)).trans o8 (fun _ _ h => h)).mono (fun j hj e => by have := lo6 j e; omega)
    have SP8 : ∀ x ∈ pl ++ ql, Src v8 x.ad x.cap x.data := fun x hx => by
      rcases List.mem_append.1 hx with h | h
      · exact (HRP.out x h v8 OO8).src
      · exact ((HKL.out.inp x (hm7 x h)).free OO8).src
    have lpq : (pl ++ ql).length ≤ 40 := by rw [List.length_append]; have := RW5.len; have := RW7.len; omega
    have hdd : rl.map B.data = (pl ++ ql).map B.data := by rw [List.map_append, HDP.out, hd7]; exact HEQ.out
    refine wpAnyH_ready (rs := [19]) (by kernel_rfl) (by simp) ?_
    refine AllReadyH.cons rfl (fun K' hK' => ?_) AllReadyH.nil
    refine wp_append_if rfl (.tmp 43) (.tmp 45) rfl rfl rfl hr 46 rfl ?_
    simp only [Act.put, List.setIfInBounds_toArray, List.set_cons_zero, List.set_cons_succ]
    refine hK'.out _ _ OO8 (fun hS => ?_)
    clear hK' K' hr
    generalize pl ++ ql = wl at *
    refine wpAnyH_ready (rs := [20]) (by kernel_rfl) (by simp) ?_
    refine AllReadyH.cons rfl (fun K' hK' => ?_) AllReadyH.nil
    go_simp
    refine (samebytes_any t3 t8 c3 c8 rl wl v8 (HOG.out.off hS (fun _ _ _ h => h)) own8 (fun b hb => (HBB.out b hb).1.src.off hS (fun _ _ _ h => h)) SP8 hdd (by have := congrArg List.length hdd; simp at this; omega)).mono ?_
    rintro e v9 ⟨rfl, O9⟩
    refine hK'.out _ _ (hS.trans O9 (fun _ _ h => h)) (fun hS => ?_)
    clear hK' K'
    refine take_at (i := 21) 48 (v := .bool true) rfl rfl (by kernel_rfl) (by kernel_rfl) (by kernel_rfl) (fun _ _ _ h => h) (Or.inl ⟨by rfl, fun w' hw' => by go_simp⟩) hS ?_
    simp only [Act.put, List.setIfInBounds_toArray, List.set_cons_zero, List.set_cons_succ]
    refine take_at (i := 22) 49 (v := .bool true) rfl rfl (by kernel_rfl) (by kernel_rfl) (by kernel_rfl) (fun _ _ _ h => h) (Or.inl ⟨by rfl, fun w' hw' => by go_simp⟩) hS ?_
    simp only [Act.put, List.setIfInBounds_toArray, List.set_cons_zero, List.set_cons_succ]
    refine take_at (i := 23) 50 (v := .func (.func 4) #[] #[]) rfl rfl (by kernel_rfl) (by kernel_rfl) (by kernel_rfl) (fun _ _ _ h => h) (Or.inl ⟨by rfl, fun w' hw' => by go_simp⟩) hS ?_
    simp only [Act.put, List.setIfInBounds_toArray, List.set_cons_zero, List.set_cons_succ]
    refine take_at (i := 24) 51 (v := .slice tx xs.length cx) rfl rfl (by kernel_rfl) (by kernel_rfl) (by kernel_rfl) (fun _ _ _ h => h) (Or.inl ⟨by rfl, fun w' hw' => by go_simp⟩) hS ?_
    simp only [Act.put, List.setIfInBounds_toArray, List.set_cons_zero, List.set_cons_succ]
    refine take_at (i := 25) 52 (v := .slice b kl.length kap) rfl rfl (by kernel_rfl) (by kernel_rfl) (by kernel_rfl) (fun _ _ _ h => h) (Or.inl ⟨by rfl, fun w' hw' => by go_simp⟩) hS ?_
    simp only [Act.put, List.setIfInBounds_toArray, List.set_cons_zero, List.set_cons_succ]
    refine take_at (i := 28) 55 (v := .slice tx xs.length cx) rfl rfl (by kernel_rfl) (by kernel_rfl) (by kernel_rfl) (fun _ _ _ h => h) (Or.inl ⟨by rfl, fun w' hw' => by go_simp⟩) hS ?_
    simp only [Act.put, List.setIfInBounds_toArray, List.set_cons_zero, List.set_cons_succ]
    refine take_at (i := 29) 56 (v := .string (strOf xs)) rfl rfl (by kernel_rfl) (by kernel_rfl) (by kernel_rfl) (fun _ _ _ h => h) (Or.inl ⟨by rfl, fun w' hw' => by have hcs := conv_src (HSX.out.off hw' (fun _ _ _ h => h)); go_simp⟩) hS ?_
    simp only [Act.put, List.setIfInBounds_toArray, List.set_cons_zero, List.set_cons_succ]
    refine take_at (i := 30) 57 (v := .slice ty ys.length cy) rfl rfl (by kernel_rfl) (by kernel_rfl) (by kernel_rfl) (fun _ _ _ h => h) (Or.inl ⟨by rfl, fun w' hw' => by go_simp⟩) hS ?_
    simp only [Act.put, List.setIfInBounds_toArray, List.set_cons_zero, List.set_cons_succ]
    refine take_at (i := 31) 58 (v := .string (strOf ys)) rfl rfl (by kernel_rfl) (by kernel_rfl) (by kernel_rfl) (fun _ _ _ h => h) (Or.inl ⟨by rfl, fun w' hw' => by have hcs := conv_src (HSY.out.off hw' (fun _ _ _ h => h)); go_simp⟩) hS ?_
    simp only [Act.put, List.setIfInBounds_toArray, List.set_cons_zero, List.set_cons_succ]
    refine take_at (i := 32) 59 (v := .string (strOf zs)) rfl rfl (by kernel_rfl) (by kernel_rfl) (by kernel_rfl) (fun _ _ _ h => h) (Or.inl ⟨by rfl, fun w' hw' => by go_simp⟩) hS ?_
    simp only [Act.put, List.setIfInBounds_toArray, List.set_cons_zero, List.set_cons_succ]
    refine wpAnyH_ready (rs := [26]) (by kernel_rfl) (by simp) ?_
    refine AllReadyH.cons rfl (fun K' hK' => ?_) AllReadyH.nil
    go_simp
    refine (put1_any (HIX.out.free hS) (by omega) kap (HKL.out.off hS)).mono ?_
    rw [HYS.out, HZS.out]
    rintro e v10 ⟨t10, c10, rfl, I10, O10⟩
    have hcs := conv_src I10.src
    clear I10
    refine hK'.out _ _ (hS.trans O10 (fun _ _ h => h)) (fun hS => ?_)
    clear hK' K'
    refine wpAnyH_ready (rs := [27]) (by kernel_rfl) (by simp) ?_
    refine AllReadyH.cons rfl (fun K' hK' => ?_) AllReadyH.nil
    go_simp
    refine hK'.out _ _ hS (fun hS => ?_)
    clear hK' K'
    clear hcs
    refine take_at (i := 33) 60 (v := .bool true) rfl rfl (by kernel_rfl) (by kernel_rfl) (by kernel_rfl) (fun _ _ _ h => h) (Or.inl ⟨by rfl, fun w' hw' => by go_simp⟩) hS ?_
    simp only [Act.put, List.setIfInBounds_toArray, List.set_cons_zero, List.set_cons_succ]
    refine take_at (i := 34) 61 (v := .bool true) rfl rfl (by kernel_rfl) (by kernel_rfl) (by kernel_rfl) (fun _ _ _ h => h) (Or.inl ⟨by rfl, fun w' hw' => by go_simp⟩) hS ?_
    simp only [Act.put, List.setIfInBounds_toArray, List.set_cons_zero, List.set_cons_succ]
    refine take_at (i := 35) 62 (v := .bool true) rfl rfl (by kernel_rfl) (by kernel_rfl) (by kernel_rfl) (fun _ _ _ h => h) (Or.inl ⟨by rfl, fun w' hw' => by go_simp⟩) hS ?_
    simp only [Act.put, List.setIfInBounds_toArray, List.set_cons_zero, List.set_cons_succ]
    refine wpAnyH_ready (rs := [36]) (by kernel_rfl) (by simp) ?_
    refine AllReadyH.cons rfl (fun K' hK' => ?_) AllReadyH.nil
    go_simp
    refine (awake_any _).mono ?_
    rintro e v11 ⟨rfl, O11⟩
    refine hK'.out _ _ (hS.trans O11 (fun _ _ h => h)) (fun hS => ?_)
    clear hK' K'
    refine take_at (i := 37) 64 (v := .bool true) rfl rfl (by kernel_rfl) (by kernel_rfl) (by kernel_rfl) (fun _ _ _ h => h) (Or.inl ⟨by rfl, fun w' hw' => by go_simp⟩) hS ?_
    simp only [Act.put, List.setIfInBounds_toArray, List.set_cons_zero, List.set_cons_succ]
    refine take_at (i := 38) 4 (v := .bool true) rfl rfl (by kernel_rfl) (by kernel_rfl) (by kernel_rfl) (fun _ _ _ h => h) (Or.inl ⟨by rfl, fun w' hw' => by go_simp⟩) hS ?_
    simp only [Act.put, List.setIfInBounds_toArray, List.set_cons_zero, List.set_cons_succ]
    refine wpAnyH_done (by kernel_rfl) ?_ _
    go_wp2_with fail
    go_ret
    exact ⟨rfl, F2.out.trans hS (fun _ _ h => h)⟩
  · have hSv3 := hS
    go_simp
    refine (smallB_any cap (HAL.out.off hS)).mono ?_
    rintro e v4 ⟨tp, cp, pl, rfl, RW5, hm5, -, hd5, O5⟩
    refine hK'.out _ _ (hS.trans O5 (fun _ _ h => h)) (fun hS => ?_)
    clear hK' K'
    refine wpAnyH_ready (rs := [13]) (by kernel_rfl) (by simp) ?_
    refine AllReadyH.cons rfl (fun K' hK' => ?_) AllReadyH.nil
    go_simp
    refine hK'.out _ _ (hS.alloc _) (fun hS => ?_)
    clear hK' K'
    have L0 : OwnG 23 1 bcs (v4.alloc (.cells #[] 23)) (some ⟨v4.heap.size, 0, none⟩) 0 [] := ⟨World.ownsRow_lit v4 #[] 0 (Nat.zero_le _) (by decide) rfl⟩
    have OL : Off (fun _ => False) v4 (v4.alloc (.cells #[] 23)) := (Off.refl _ v4).alloc _
    have hq7 : v4.heap.size < (v4.alloc (.cells #[] 23)).heap.size := by simp [World.size_alloc]
    generalize hV0 : (v4.alloc (.cells #[] 23)) = V0 at L0 OL hS hq7 ⊢
    generalize hQ : v4.heap.size = QQ at L0 hq7 ⊢
    have HQ6 : Hid (v4.heap.size ≤ QQ) := by show _ ≤ _; omega
    have HQ7 : Hid (QQ < V0.heap.size) := hq7
    clear hV0 hQ hq7
    have HQ2 : Hid (v2.heap.size ≤ QQ) := by have := HQ6.out; have := O5.size; have := hSv3.size; show v2.heap.size ≤ QQ; omega
    replace RW5 := RW5.off OL
    have HRP : Hid (∀ x ∈ pl, ∀ W, Off (fun _ => False) v2 W → Inp W x.ad x.cap x.data) := fun x hx W o => (HAL.out.inp x (hm5 x hx)).free o
    have HDP : Hid _ := hd5
    have HS5 : Hid _ := hS
    obtain ⟨t6, c6, v6, hr, own6, o6, at6⟩ := appG_run (t := 22) Try.underlying22 Try.infoBs rfl (by decide) (by decide) bcs_len bcs_one L0 RW5.own (by have := RW5.len; simp; omega) 22
    rw [List.nil_append] at hr own6
    replace o6 : Off (fun _ => False) v2 v6 := ((HS5.out.mono (fun _ _ h => h.elim)).trans o6 (fun _ _ h => h)).mono (fun j hj e => by simp [blk] at e; have := HQ2.out; omega)
    have lo6 : ∀ c, blk t6 = some c → v2.heap.size ≤ c := fun c hc => by
      rcases at6 with e | e
      · rw [e] at hc
        simp [blk] at hc
        have := HQ2.out
        omega
      · rw [e] at hc
        simp at hc
        have := HS5.out.size
        omega
    refine wpAnyH_ready (rs := [16]) (by kernel_rfl) (by simp) ?_
    refine AllReadyH.cons rfl (fun K' hK' => ?_) AllReadyH.nil
    refine wp_append_if rfl (.tmp 40) (.tmp 42) rfl rfl rfl hr 43 rfl ?_
    simp only [Act.put, List.setIfInBounds_toArray, List.set_cons_zero, List.set_cons_succ]
    refine hK'.out _ _ o6 (fun hS => ?_)
    clear hK' K' hr
    refine wpAnyH_ready (rs := [18]) (by kernel_rfl) (by simp) ?_
    refine AllReadyH.cons rfl (fun K' hK' => ?_) AllReadyH.nil
    go_simp
    refine (smallB_any kap (HKL.out.off hS)).mono ?_
    rintro e v7 ⟨tq, cq, ql, rfl, RW7, hm7, -, hd7, O7⟩
    replace own6 := own6.off O7 (fun _ _ _ h => h)
    refine hK'.out _ _ (hS.trans O7 (fun _ _ h => h)) (fun hS => ?_)
    clear hK' K'
    obtain ⟨t8, c8, v8, hr, own8, o8, at8⟩ := appG_run (t := 22) Try.underlying22 Try.infoBs rfl (by decide) (by decide) bcs_len bcs_one own6 RW7.own (by have := RW5.len; have := RW7.len; omega) 22
    have OO8 : Off (fun _ => False) v2 v8 := ((hS.mono (fun _ _ h => h.elim)).trans o8 (fun _ _ h => h)).mono (fun j hj e => by have := lo6 j e; omega)
    have SP8 : ∀ x ∈ pl ++ ql, Src v8 x.ad x.cap x.data := fun x hx => by
      rcases List.mem_append.1 hx with h | h
      · exact (HRP.out x h v8 OO8).src
      · exact ((HKL.out.inp x (hm7 x h)).free OO8).src
    have lpq : (pl ++ ql).length ≤ 40 := by rw [List.length_append]; have := RW5.len; have := RW7.len; omega
    have hdd : rl.map B.data = (pl ++ ql).map B.data := by rw [List.map_append, HDP.out, hd7]; exact HEQ.out
    refine wpAnyH_ready (rs := [19]) (by kernel_rfl) (by simp) ?_
    refine AllReadyH.cons rfl (fun K' hK' => ?_) AllReadyH.nil
    refine wp_append_if rfl (.tmp 43) (.tmp 45) rfl rfl rfl hr 46 rfl ?_
    simp only [Act.put, List.setIfInBounds_toArray, List.set_cons_zero, List.set_cons_succ]
    refine hK'.out _ _ OO8 (fun hS => ?_)
    clear hK' K' hr
    generalize pl ++ ql = wl at *
    refine wpAnyH_ready (rs := [20]) (by kernel_rfl) (by simp) ?_
    refine AllReadyH.cons rfl (fun K' hK' => ?_) AllReadyH.nil
    go_simp
    refine (samebytes_any t3 t8 c3 c8 rl wl v8 (HOG.out.off hS (fun _ _ _ h => h)) own8 (fun b hb => (HBB.out b hb).1.src.off hS (fun _ _ _ h => h)) SP8 hdd (by have := congrArg List.length hdd; simp at this; omega)).mono ?_
    rintro e v9 ⟨rfl, O9⟩
    refine hK'.out _ _ (hS.trans O9 (fun _ _ h => h)) (fun hS => ?_)
    clear hK' K'
    refine take_at (i := 21) 48 (v := .bool true) rfl rfl (by kernel_rfl) (by kernel_rfl) (by kernel_rfl) (fun _ _ _ h => h) (Or.inl ⟨by rfl, fun w' hw' => by go_simp⟩) hS ?_
    simp only [Act.put, List.setIfInBounds_toArray, List.set_cons_zero, List.set_cons_succ]
    refine take_at (i := 22) 49 (v := .bool true) rfl rfl (by kernel_rfl) (by kernel_rfl) (by kernel_rfl) (fun _ _ _ h => h) (Or.inl ⟨by rfl, fun w' hw' => by go_simp⟩) hS ?_
    simp only [Act.put, List.setIfInBounds_toArray, List.set_cons_zero, List.set_cons_succ]
    refine take_at (i := 23) 50 (v := .func (.func 4) #[] #[]) rfl rfl (by kernel_rfl) (by kernel_rfl) (by kernel_rfl) (fun _ _ _ h => h) (Or.inl ⟨by rfl, fun w' hw' => by go_simp⟩) hS ?_
    simp only [Act.put, List.setIfInBounds_toArray, List.set_cons_zero, List.set_cons_succ]
    refine take_at (i := 24) 51 (v := .slice tx xs.length cx) rfl rfl (by kernel_rfl) (by kernel_rfl) (by kernel_rfl) (fun _ _ _ h => h) (Or.inl ⟨by rfl, fun w' hw' => by go_simp⟩) hS ?_
    simp only [Act.put, List.setIfInBounds_toArray, List.set_cons_zero, List.set_cons_succ]
    refine take_at (i := 25) 52 (v := .slice b kl.length kap) rfl rfl (by kernel_rfl) (by kernel_rfl) (by kernel_rfl) (fun _ _ _ h => h) (Or.inl ⟨by rfl, fun w' hw' => by go_simp⟩) hS ?_
    simp only [Act.put, List.setIfInBounds_toArray, List.set_cons_zero, List.set_cons_succ]
    refine take_at (i := 28) 55 (v := .slice tx xs.length cx) rfl rfl (by kernel_rfl) (by kernel_rfl) (by kernel_rfl) (fun _ _ _ h => h) (Or.inl ⟨by rfl, fun w' hw' => by go_simp⟩) hS ?_
    simp only [Act.put, List.setIfInBounds_toArray, List.set_cons_zero, List.set_cons_succ]
    refine take_at (i := 29) 56 (v := .string (strOf xs)) rfl rfl (by kernel_rfl) (by kernel_rfl) (by kernel_rfl) (fun _ _ _ h => h) (Or.inl ⟨by rfl, fun w' hw' => by have hcs := conv_src (HSX.out.off hw' (fun _ _ _ h => h)); go_simp⟩) hS ?_
    simp only [Act.put, List.setIfInBounds_toArray, List.set_cons_zero, List.set_cons_succ]
    refine take_at (i := 30) 57 (v := .slice ty ys.length cy) rfl rfl (by kernel_rfl) (by kernel_rfl) (by kernel_rfl) (fun _ _ _ h => h) (Or.inl ⟨by rfl, fun w' hw' => by go_simp⟩) hS ?_
    simp only [Act.put, List.setIfInBounds_toArray, List.set_cons_zero, List.set_cons_succ]
    refine take_at (i := 31) 58 (v := .string (strOf ys)) rfl rfl (by kernel_rfl) (by kernel_rfl) (by kernel_rfl) (fun _ _ _ h => h) (Or.inl ⟨by rfl, fun w' hw' => by have hcs := conv_src (HSY.out.off hw' (fun _ _ _ h => h)); go_simp⟩) hS ?_
    simp only [Act.put, List.setIfInBounds_toArray, List.set_cons_zero, List.set_cons_succ]
    refine take_at (i := 32) 59 (v := .string (strOf zs)) rfl rfl (by kernel_rfl) (by kernel_rfl) (by kernel_rfl) (fun _ _ _ h => h) (Or.inl ⟨by rfl, fun w' hw' => by go_simp⟩) hS ?_
    simp only [Act.put, List.setIfInBounds_toArray, List.set_cons_zero, List.set_cons_succ]
    refine wpAnyH_ready (rs := [26]) (by kernel_rfl) (by simp) ?_
    refine AllReadyH.cons rfl (fun K' hK' => ?_) AllReadyH.nil
    go_simp
    refine (put1_any (HIX.out.free hS) (by omega) kap (HKL.out.off hS)).mono ?_
    rw [HYS.out, HZS.out]
    rintro e v10 ⟨t10, c10, rfl, I10, O10⟩
    have hcs := conv_src I10.src
    clear I10
    refine hK'.out _ _ (hS.trans O10 (fun _ _ h => h)) (fun hS => ?_)
    clear hK' K'
    refine wpAnyH_ready (rs := [27]) (by kernel_rfl) (by simp) ?_
    refine AllReadyH.cons rfl (fun K' hK' => ?_) AllReadyH.nil
    go_simp
    refine hK'.out _ _ hS (fun hS => ?_)
    clear hK' K'
    clear hcs
    refine take_at (i := 33) 60 (v := .bool true) rfl rfl (by kernel_rfl) (by kernel_rfl) (by kernel_rfl) (fun _ _ _ h => h) (Or.inl ⟨by rfl, fun w' hw' => by go_simp⟩) hS ?_
    simp only [Act.put, List.setIfInBounds_toArray, List.set_cons_zero, List.set_cons_succ]
    refine take_at (i := 34) 61 (v := .bool true) rfl rfl (by kernel_rfl) (by kernel_rfl) (by kernel_rfl) (fun _ _ _ h => h) (Or.inl ⟨by rfl, fun w' hw' => by go_simp⟩) hS ?_
    simp only [Act.put, List.setIfInBounds_toArray, List.set_cons_zero, List.set_cons_succ]
    refine take_at (i := 35) 62 (v := .bool true) rfl rfl (by kernel_rfl) (by kernel_rfl) (by kernel_rfl) (fun _ _ _ h => h) (Or.inl ⟨by rfl, fun w' hw' => by go_simp⟩) hS ?_
    simp only [Act.put, List.setIfInBounds_toArray, List.set_cons_zero, List.set_cons_succ]
    refine wpAnyH_ready (rs := [36]) (by kernel_rfl) (by simp) ?_
    refine AllReadyH.cons rfl (fun K' hK' => ?_) AllReadyH.nil
    go_simp
    refine (awake_any _).mono ?_
    rintro e v11 ⟨rfl, O11⟩
    refine hK'.out _ _ (hS.trans O11 (fun _ _ h => h)) (fun hS => ?_)
    clear hK' K'
    refine take_at (i := 37) 64 (v := .bool true) rfl rfl (by kernel_rfl) (by kernel_rfl) (by kernel_rfl) (fun _ _ _ h => h) (Or.inl ⟨by rfl, fun w' hw' => by go_simp⟩) hS ?_
    simp only [Act.put, List.setIfInBounds_toArray, List.set_cons_zero, List.set_cons_succ]
    refine take_at (i := 38) 4 (v := .bool true) rfl rfl (by kernel_rfl) (by kernel_rfl) (by kernel_rfl) (fun _ _ _ h => h) (Or.inl ⟨by rfl, fun w' hw' => by go_simp⟩) hS ?_
    simp only [Act.put, List.setIfInBounds_toArray, List.set_cons_zero, List.set_cons_succ]
    refine wpAnyH_done (by kernel_rfl) ?_ _
    go_wp2_with fail
    go_ret
    exact ⟨rfl, F2.out.trans hS (fun _ _ h => h)⟩
end Go.Proofs.Ytjhhplagnnkpeab
