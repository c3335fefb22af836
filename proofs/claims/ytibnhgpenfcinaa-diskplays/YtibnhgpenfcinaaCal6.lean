/- A slice of calls that came in; appends as runs; what a file and the law's own bytes are at a round. -/
import Derived.Test.YtibnhgpenfcinaaTel
namespace Go.Proofs.Ytibnhgpenfcinaa
open Go.ChangeShapes Go.WideShapes Go.ChangeAt Go.RowKit

/-- A call as data. -/
structure CallD where
  act : Int
  num : Int
  tt : Option Addr
  tc : Nat
  text : List Nat

/-- It lies there. -/
structure CallOk (w : World) (b off : Nat) (c : CallD) : Prop where
  c0 : w.cell? ⟨b, off, none⟩ = some (.int .i64 c.act)
  c1 : w.cell? ⟨b, off + 1, none⟩ = some (.int .i64 c.num)
  c2 : w.cell? ⟨b, off + 2, none⟩ = some (.slice c.tt c.text.length c.tc)
  i0 : -9223372036854775808 ≤ c.num
  i1 : c.num ≤ 9223372036854775807
  src : Src w c.tt c.tc c.text
  tl : c.text.length ≤ 9223372036854775807

structure ArgC (w : World) (a : Option Addr) (len : Nat) (cs : Nat → CallD) : Prop where
  bound : len ≤ 9223372036854775807
  at_ : ∀ i, i < len → ∃ b off, a = some ⟨b, off, none⟩ ∧ b < w.heap.size ∧ CallOk w b (off + i * 3) (cs i)

theorem CallOk.off {w w' : World} {b off : Nat} {c : CallD} (h : CallOk w b off c) (o : Off (fun _ => False) w w') : CallOk w' b off c := by
  have k : ∀ j v, w.cell? ⟨b, j, none⟩ = some v → w'.cell? ⟨b, j, none⟩ = some v := fun j v e => by
    have := cell_lt e
    rw [← e]
    exact World.cell?_of_block (a := ⟨b, j, none⟩) (o.block b this (fun h => h))
  exact ⟨k _ _ h.c0, k _ _ h.c1, k _ _ h.c2, h.i0, h.i1, h.src.off o (fun c hc _ h => h), h.tl⟩

section
variable {H : Type} {enc : TypeId × Value → H}

theorem list3 {α : Type} (l : List α) (h : l.length = 3) : ∃ a b c, l = [a, b, c] := by
  match l, h with
  | [a, b, c], _ => exact ⟨a, b, c, rfl⟩

theorem cellsC : Try.prog.cellsOf 28 = 3 := by kernel_rfl
theorem fieldsC : ∃ f0 f1 f2 : Field, Try.prog.underlying 28 = some (.struct #[f0, f1, f2]) ∧ (f0.offset = 0 ∧ f0.type = 3) ∧ (f1.offset = 1 ∧ f1.type = 3) ∧ (f2.offset = 2 ∧ f2.type = 25) :=
  ⟨_, _, _, Try.underlying28, ⟨rfl, rfl⟩, ⟨rfl, rfl⟩, ⟨rfl, rfl⟩⟩
theorem one3 : Try.prog.cellsOf 3 = 1 := by kernel_rfl
theorem oneB : Try.prog.cellsOf 25 = 1 := by kernel_rfl

theorem isRow_src {w : World} {a : Option Addr} {len cap : Nat} {zs : List Int} (h : IsRow .u8 w a len cap zs) : ∃ bs : List Nat, bs.length = len ∧ Src w a cap bs := by
  refine ⟨(List.range len).map (bytesOf zs), by simp, ⟨?_⟩⟩
  rcases h with ⟨rfl, rfl, rfl, rfl⟩ | ⟨x, rfl, h1⟩
  · exact .inl ⟨rfl, by simp, rfl⟩
  · refine .inr ⟨x, rfl, fun j u hj => ?_⟩
    have hj' := vl_lt hj
    simp only [List.length_map, List.length_range] at hj'
    have hr : IsRow .u8 w (some x) len cap zs := .inr ⟨x, rfl, h1⟩
    obtain ⟨-, b, off, he, -, hc⟩ := hr.bytes j hj'
    simp only [Option.some.injEq] at he
    subst he
    rw [add_lit, hc]
    rw [vl_get _ _ (by simpa using hj')] at hj
    simp [hj'] at hj
    rw [hj]

/-- One element. -/
theorem call_of {w : World} {n : Nat} {vs : List Value} {d : DataW H} {pl : List MemPlace} {a : Addr} (h : DataW.trod enc Try.prog w 0 (fun _ => true) true n 28 vs = some (d, pl))
    (hc : ∀ k v, vs[k]? = some v → w.cell? (a.add k) = some v) : ∃ b off, a = ⟨b, off, none⟩ ∧ b < w.heap.size ∧ ∃ c, CallOk w b off c := by
  obtain ⟨f0, f1, f2, hu, ⟨o0, t0⟩, ⟨o1, t1⟩, ⟨o2, t2⟩⟩ := fieldsC
  obtain ⟨xs, m, -, hxy, hvl, hxl, hf⟩ := DataW.trod_struct hu h
  rw [cellsC] at hvl
  obtain ⟨v0, v1, v2, rfl⟩ := list3 vs hvl
  obtain ⟨x0, x1, x2, rfl⟩ := list3 xs (by simpa using hxl)
  have g0 := hf 0 f0 rfl
  have g1 := hf 1 f1 rfl
  have g2 := hf 2 f2 rfl
  rw [o0, t0, one3] at g0
  rw [o1, t1, one3] at g1
  rw [o2, t2, oneB] at g2
  simp at g0 g1 g2
  obtain ⟨y0, e0, -, -⟩ := DataW.trod_int Try.underlying3 g0
  obtain ⟨y1, e1, -, q1⟩ := DataW.trod_int Try.underlying3 g1
  simp at e0 e1
  subst e0 e1
  have q1 := wfI q1
  have k0 := hc 0 _ rfl
  obtain ⟨b, off, spot⟩ := a
  have hspot : spot = none := by simpa [Addr.add] using World.cell?_spot k0
  subst hspot
  have k1 := hc 1 _ rfl
  have k2 := hc 2 _ rfl
  rw [add_lit] at k0 k1 k2
  refine ⟨b, off, rfl, cell_lt k0, ?_⟩
  obtain ⟨tt, len, tc, zs, rfl, hr, hmax⟩ : ∃ tt len tc zs, v2 = .slice tt len tc ∧ IsRow .u8 w tt len tc zs ∧ len ≤ maxLen := by
    rcases open_ints Try.underlying25 Try.underlying5 (by kernel_rfl) g2 with ⟨hcs, -⟩ | ⟨x, l, c, zs, hcs, _, hl, hm, hz, hx, hcell, hwz⟩
    · simp at hcs
      exact ⟨none, 0, 0, [], hcs, .inl ⟨rfl, rfl, rfl, rfl⟩, by omega⟩
    · simp at hcs
      simp only [if_true] at hz
      exact ⟨_, _, _, zs, hcs, .inr ⟨_, rfl, hl, hm, hz, hcell, hwz⟩, by omega⟩
  obtain ⟨bs, rfl, hsrc⟩ := isRow_src hr
  unfold maxLen at hmax
  exact ⟨⟨y0, y1, tt, tc, bs⟩, ⟨k0, k1, k2, q1.1, q1.2, hsrc, by simp only; omega⟩⟩

theorem argC_of {w : World} {fuel : Nat} {a : Option Addr} {len cap : Nat} {d : DataW H} {pl : List MemPlace} (h : DataW.trod enc Try.prog w 0 (fun _ => true) true fuel 22 [.slice a len cap] = some (d, pl)) :
    ∃ cs, ArgC w a len cs := by
  haveI : Inhabited CallD := ⟨⟨0, 0, none, 0, []⟩⟩
  rcases Go.Deep.open_slice Try.underlying22 h with ⟨hcs, -⟩ | ⟨x, l, c, m, n, D, Pl, hcs, -, hl, hm, hmm, hx, hel⟩
  · simp at hcs
    obtain ⟨rfl, rfl, rfl⟩ := hcs
    exact ⟨default, ⟨by omega, fun i hi => by omega⟩⟩
  · simp at hcs
    obtain ⟨rfl, rfl, rfl⟩ := hcs
    simp only [if_true] at hmm
    unfold maxLen at hm
    have each : ∀ i, i < len → ∃ c : CallD, (∃ b off, x.add (i * 3) = ⟨b, off, none⟩ ∧ b < w.heap.size ∧ CallOk w b off c) := by
      intro i hi
      obtain ⟨vs, hv, ht⟩ := hel i (by omega)
      rw [cellsC] at hv
      obtain ⟨-, hvl, hcell⟩ := World.cells?_some hv
      obtain ⟨b, off, e, hb, c, hc⟩ := call_of ht (fun k v hk => by
        have : k < 3 := by
          obtain ⟨h, -⟩ := List.getElem?_eq_some_iff.1 hk
          omega
        rw [hcell k this]
        exact hk)
      exact ⟨c, b, off, e, hb, hc⟩
    obtain ⟨cs, hc⟩ := Go.Deep.choose_lt each
    refine ⟨cs, ⟨by omega, fun i hi => ?_⟩⟩
    obtain ⟨b0, off0, e0, -⟩ := hc 0 (by omega)
    obtain ⟨b, off, e, hb, hk⟩ := hc i hi
    simp only [Nat.zero_mul] at e0
    obtain ⟨bx, ox, sx⟩ := x
    have e0' : (⟨bx, ox, sx⟩ : Addr) = ⟨b0, off0, none⟩ := by simpa [Addr.add] using e0
    simp only [Addr.mk.injEq] at e0'
    obtain ⟨rfl, rfl, rfl⟩ := e0'
    rw [add_lit] at e
    simp only [Addr.mk.injEq, and_true] at e
    obtain ⟨rfl, rfl⟩ := e
    exact ⟨bx, ox, rfl, hb, hk⟩
end

/-- 'append(s, x...)' of bytes, s the call's own, as a run. -/
theorem app_run {w : World} {tad : Option Addr} {cap : Nat} {bs : List Nat} (hown : OwnR w tad cap bs) {xt : Option Addr} {xc : Nat} {xs : List Nat} (hsrc : Src w xt xc xs) (hb : bs.length + xs.length ≤ 140737488355328) (ty : TypeId) :
    ∃ t' c' w', (Builtin.append_ #[25, 25] ty #[.slice tad bs.length cap, .slice xt xs.length xc]).run Try.prog w = .ok (.slice t' (bs ++ xs).length c') w' ∧ OwnR w' t' c' (bs ++ xs) ∧ Off (fun c => blk tad = some c) w w' ∧ (blk t' = blk tad ∨ blk t' = some w.heap.size) := by
  obtain ⟨i0, hi, hz0, hz1, hz2⟩ := info_parts Try.infoB
  rcases hsrc.is with ⟨rfl, rfl, rfl⟩ | ⟨ad, rfl, hc⟩
  · refine ⟨tad, cap, w, ?_, by rw [List.append_nil]; exact hown, Off.refl _ w, .inl rfl⟩
    rw [List.append_nil]
    exact run_append_owned_none (P := Try.prog) (w := w) 0 25 ty 5 i0 1 Try.underlying25 hi _ _ _ hown.row
  · obtain ⟨v', w', hr, own', grow', -, hat⟩ := run_append_own_at (P := Try.prog) w 0 25 ty 5 i0 (.int .u8 0) 1 1 Try.underlying25 hi hz0 hz1 hz2 rfl (by decide) _ _ _ hown.row ad xs.length xc (vl xs) (by simp [vl_len]) hc (vl_one xs) (by unfold maxLen; omega) (by omega) (Nat.zero_le _)
    rw [← vl_append, ← List.length_append] at own'
    obtain ⟨t', c', rfl⟩ : ∃ t' c', v' = .slice t' (bs ++ xs).length c' := by
      rcases own'.2 with ⟨rfl, h0⟩ | ⟨g, c, cur, hv, -⟩
      · exact ⟨none, 0, by rw [h0]⟩
      · exact ⟨_, _, hv⟩
    rw [blk_own, blk_own] at hat
    rw [blk_own] at grow'
    exact ⟨t', c', w', hr, ⟨own'⟩, (Off.refl _ w).grown grow' (fun k hk => .inl hk), hat⟩
theorem wp_append_if {P : Program} {o : Oper} {a : Act} {w w' : World} {K : Act → World → Prop} {Q : Exit → Act → World → Prop} {y : Nat → Option Bool} {E : Prop} (hw : Region.wanted o y = true) (s x : Operand) {t u : TypeId}
    (ho : o.op = .call { callee := .builtin .append, args := #[s, x], argTypes := #[t, u] }) {v v' X : Value} (hs : a.eval s = v) (hx : a.eval x = X) (hr : (Builtin.append_ #[t, u] o.type #[v, X]).run P w = .ok v' w')
    (d : Nat) (hd : o.dst = some d) (h : K (a.put (some d) v') w') : if Region.wanted o y = true then Oper.wp P o a w K Q else E := by
  rw [if_pos hw]
  unfold Oper.wp execOp
  simp only [ho, resolve, invoke, builtin, Sem.run_bind, Sem.run_pure, Result.andThen_ok, List.map_toArray, List.map_cons, List.map_nil, hs, hx, hr]
  rw [← hd] at h
  exact h

/-- The file, and the law's own bytes beside it. -/
structure Sta (w v : World) (b most : Nat) (bs : List Nat) (s : Nat) (tn : Option Addr) (cn : Nat) (ns : List Nat) : Prop where
  off : Off (fun _ => False) w v
  is : ∃ D, Dsk D b most bs s v ∧ (∀ c, D c → w.heap.size ≤ c) ∧ OwnR v tn cn ns ∧ ∀ c, blk tn = some c → w.heap.size ≤ c ∧ ¬ D c
theorem Sta.att {w v : World} {b most : Nat} {bs : List Nat} {s : Nat} {tn : Option Addr} {cn : Nat} {ns : List Nat} (h : Sta w v b most bs s tn cn ns) : Att w v b most bs s := by
  obtain ⟨h1, D, k, hd, -, -⟩ := h
  exact ⟨h1, D, k, hd⟩
theorem Sta.own {w v : World} {b most : Nat} {bs : List Nat} {s : Nat} {tn : Option Addr} {cn : Nat} {ns : List Nat} (h : Sta w v b most bs s tn cn ns) : OwnR v tn cn ns := by
  obtain ⟨h1, D, k, hd, o, -⟩ := h
  exact o
theorem Sta.free {w v v' : World} {b most : Nat} {bs : List Nat} {s : Nat} {tn : Option Addr} {cn : Nat} {ns : List Nat} (h : Sta w v b most bs s tn cn ns) (o : Off (fun _ => False) v v') : Sta w v' b most bs s tn cn ns := by
  obtain ⟨h1, D, k, hd, ow, hn⟩ := h
  exact ⟨h1.trans o (fun _ _ h => h), D, k.free o, hd, ow.off o (fun _ _ _ h => h), hn⟩
theorem Sta.anew {w v v' : World} {b most : Nat} {bs : List Nat} {s : Nat} {tn : Option Addr} {cn : Nat} {ns : List Nat} (h : Sta w v b most bs s tn cn ns) (o : Off (fun _ => False) v v') {t' : Option Addr} {c' : Nat} {xs : List Nat} (own : OwnR v' t' c' xs) (hf : ∀ c, blk t' = some c → v.heap.size ≤ c) : Sta w v' b most bs s t' c' xs := by
  obtain ⟨h1, D, k, hd, -, -⟩ := h
  refine ⟨h1.trans o (fun _ _ h => h), D, k.free o, hd, own, fun c hc => ⟨by have := hf c hc; have := h1.size; omega, fun e => ?_⟩⟩
  have := hf c hc
  have := k.lt c e
  omega
theorem Sta.take {w v : World} {b most : Nat} {bs : List Nat} {s : Nat} {tn : Option Addr} {cn : Nat} {ns : List Nat} (h : Sta w v b most bs s tn cn ns) {k : Nat} (hk : k ≤ ns.length) : Sta w v b most bs s tn cn (ns.take k) := by
  obtain ⟨h1, D, kk, hd, ow, hn⟩ := h
  exact ⟨h1, D, kk, hd, (ow.take hk).2, hn⟩
theorem Sta.next {w v v' : World} {D D' : Nat → Prop} {b most : Nat} {bs : List Nat} {s : Nat} {tn : Option Addr} {cn : Nat} {ns : List Nat} (h : Off (fun _ => False) w v) (hd : ∀ c, D c → w.heap.size ≤ c) (ow : OwnR v tn cn ns) (hn : ∀ c, blk tn = some c → w.heap.size ≤ c ∧ ¬ D c) (o : Off D v v') (k : Dsk D' b most bs s v') (hd' : ∀ c, D' c → D c ∨ v.heap.size ≤ c) : Sta w v' b most bs s tn cn ns := by
  have A := Att.next h hd o k hd'
  refine ⟨A.off, D', k, fun c hc => ?_, ow.off o (fun c _ hc => (hn c hc).2), fun c hc => ⟨(hn c hc).1, fun e => ?_⟩⟩
  · have := h.size
    rcases hd' c hc with h | h
    · exact hd c h
    · omega
  · rcases hd' c e with h | h
    · exact (hn c hc).2 h
    · have := ow.lt c hc
      omega
theorem ssync_any {w v : World} {b most : Nat} {bs : List Nat} {s : Nat} {tn : Option Addr} {cn : Nat} {ns : List Nat} (h : Sta w v b most bs s tn cn ns) :
    Calls Try.prog 12 #[.pointer (some ⟨b, 0, none⟩)] v fun e v' => e = .returned (.int .i64 0) ∧ Sta w v' b most bs bs.length tn cn ns := by
  obtain ⟨h1, D, k, hd, ow, hn⟩ := h
  refine (sync_any k.toDsk0).mono ?_
  rintro e v' ⟨rfl, k', o⟩
  exact ⟨rfl, .next h1 hd ow hn o k' (fun _ h => .inl h)⟩
theorem sappend_any {w v : World} {b most : Nat} {bs : List Nat} {s : Nat} {tn : Option Addr} {cn : Nat} {ns : List Nat} (h : Sta w v b most bs s tn cn ns) (xt : Option Addr) (xc : Nat) (xs : List Nat) (hx : Src v xt xc xs) (hxl : xs.length ≤ 9223372036854775807) :
    Calls Try.prog 11 #[.pointer (some ⟨b, 0, none⟩), .slice xt xs.length xc] v fun e v' => e = .returned (.int .i64 (appE most bs xs)) ∧ Sta w v' b most (appL most bs xs) s tn cn ns := by
  obtain ⟨h1, D, k, hd, ow, hn⟩ := h
  refine (append_any k xt xc xs hx hxl).mono ?_
  rintro e v' ⟨rfl, D', k', o, d⟩
  exact ⟨rfl, .next h1 hd ow hn o k' d⟩
theorem sreplace_any {w v : World} {b most : Nat} {bs : List Nat} {s : Nat} {tn : Option Addr} {cn : Nat} {ns : List Nat} (h : Sta w v b most bs s tn cn ns) (xt : Option Addr) (xc : Nat) (xs : List Nat) (hx : Src v xt xc xs) (hxl : xs.length ≤ 9223372036854775807) :
    Calls Try.prog 13 #[.pointer (some ⟨b, 0, none⟩), .slice xt xs.length xc] v fun e v' => e = .returned (.int .i64 (repE most xs)) ∧ Sta w v' b most (repL most bs xs) (repS most s xs) tn cn ns := by
  obtain ⟨h1, D, k, hd, ow, hn⟩ := h
  refine (replace_any k xt xc xs hx hxl).mono ?_
  rintro e v' ⟨rfl, D', k', o, d⟩
  exact ⟨rfl, .next h1 hd ow hn o k' d⟩
theorem scut_any {w v : World} {b most : Nat} {bs : List Nat} {s : Nat} {tn : Option Addr} {cn : Nat} {ns : List Nat} (h : Sta w v b most bs s tn cn ns) (n : Nat) (hn : n ≤ bs.length) :
    Calls Try.prog 14 #[.pointer (some ⟨b, 0, none⟩), .int .i64 (n : Int)] v fun e v' => e = .returned (.int .i64 0) ∧ Sta w v' b most (bs.take n) n tn cn ns := by
  obtain ⟨h1, D, k, hd, ow, hn2⟩ := h
  refine (cut_any k n hn).mono ?_
  rintro e v' ⟨rfl, k', o⟩
  exact ⟨rfl, .next h1 hd ow hn2 o k' (fun _ h => .inl h)⟩
theorem scutno_any {w v : World} {b most : Nat} {bs : List Nat} {s : Nat} {tn : Option Addr} {cn : Nat} {ns : List Nat} (h : Sta w v b most bs s tn cn ns) (n : Int) (hn : n < 0 ∨ (bs.length : Int) < n) :
    Calls Try.prog 14 #[.pointer (some ⟨b, 0, none⟩), .int .i64 n] v fun e v' => e = .returned (.int .i64 1) ∧ v' = v := by
  obtain ⟨h1, D, k, hd, ow, hn2⟩ := h
  exact cutno_any k n hn
theorem scrash_any {w v : World} {b most : Nat} {bs : List Nat} {s : Nat} {tn : Option Addr} {cn : Nat} {ns : List Nat} (h : Sta w v b most bs s tn cn ns) (p : Int) :
    Calls Try.prog 15 #[.pointer (some ⟨b, 0, none⟩), .int .i64 p] v fun e v' => e = .returned (.tuple #[]) ∧ Sta w v' b most (bs.take (keepN bs.length s p)) (keepN bs.length s p) tn cn ns := by
  obtain ⟨h1, D, k, hd, ow, hn⟩ := h
  refine (crash_any k p).mono ?_
  rintro e v' ⟨rfl, k', o⟩
  exact ⟨rfl, .next h1 hd ow hn o k' (fun _ h => .inl h)⟩
end Go.Proofs.Ytibnhgpenfcinaa
