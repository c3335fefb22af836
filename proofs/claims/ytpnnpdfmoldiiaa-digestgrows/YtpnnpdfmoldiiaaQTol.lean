/- Items of several texts. -/
import Derived.Lib.Bytealg
import Derived.Laws.ResultCell
import Derived.Test.YtpnnpdfmoldiiaaQStb
namespace Go.Proofs.Ytpnnpdfmoldiiaa
open Go.Shelf Go.RowKit Go.Lib Go.Sort
theorem cmpB_lt : ∀ (a b : List UInt8), Lib.compareBytes a b < 0 ↔ bytesBefore a b = true
 | [], [] => by simp [Lib.compareBytes, bytesBefore]
 | [], _ :: _ => by simp [Lib.compareBytes, bytesBefore]
 | _ :: _, [] => by simp [Lib.compareBytes, bytesBefore]
 | a :: r, b :: s => by
  unfold Lib.compareBytes bytesBefore
  have ih := cmpB_lt r s
  by_cases h1 : a < b
  ·simp [h1]
  ·by_cases h2 : b < a
   ·have h3 : a ≠ b := fun e => by subst e; exact absurd h2 h1
    simp [h1, h2, h3]
   ·have h3 : a = b := by
     rcases UInt8.lt_or_lt_of_ne (a := a) (b := b) |> fun _ => Classical.em (a = b) with e | e
     ·exact e
     ·rcases UInt8.lt_or_lt_of_ne e with h | h
      ·exact absurd h h1
      ·exact absurd h h2
    subst h3
    simp [h1, ih]
theorem cmpB_eq : ∀ (a b : List UInt8), Lib.compareBytes a b = 0 ↔ a = b
 | [], [] => by simp [Lib.compareBytes]
 | [], _ :: _ => by simp [Lib.compareBytes]
 | _ :: _, [] => by simp [Lib.compareBytes]
 | a :: r, b :: s => by
  unfold Lib.compareBytes
  have ih := cmpB_eq r s
  by_cases h1 : a < b
  ·have h3 : a ≠ b := fun e => by subst e; exact absurd h1 (by simp)
   simp [h1, h3]
  ·by_cases h2 : b < a
   ·have h3 : a ≠ b := fun e => by subst e; exact absurd h2 h1
    simp [h1, h2, h3]
   ·have h3 : a = b := by
     rcases Classical.em (a = b) with e | e
     ·exact e
     ·rcases UInt8.lt_or_lt_of_ne e with h | h
      ·exact absurd h h1
      ·exact absurd h h2
    subst h3
    simp [h1, ih]
set_option maxHeartbeats 1000000 in
set_option maxRecDepth 100000 in
theorem cstr_any (a b : ByteArray) (w : World) : Calls Try.prog 134 #[.string a, .string b] w fun e w' => e = .returned (.int .i64 (Lib.compareBytes a.data.toList b.data.toList)) ∧ w' = w := by
 go_enter Try.func134, Try.ntmps134
 go_wp2
 rw [run_callFunc_extern Try.func149 (by kernel_rfl) (by kernel_rfl) (by kernel_rfl) (e := Extern.BytealgCompare.compare) (by kernel_rfl), Lib.run_compareString]
 simp only [Result.andThen]
 rw [Oper.upon_value]
 go_wp2
 go_ret
 exact ⟨rfl, rfl⟩
def cfK (x y : G) : Int := Lib.compareBytes x.key.data.toList y.key.data.toList
theorem ltK (x y : G) : ltOf cfK x y = blt x.key y.key := by
 rw [Bool.eq_iff_iff]
 unfold ltOf cfK
 rw [decide_eq_true_iff]
 exact cmpB_lt _ _
theorem swoK : SWO (ltOf cfK) where
 irrefl x := by rw [ltK]; exact blt_irr _
 trans x y z h1 h2 := by rw [ltK] at *; exact blt_trans h1 h2
 ntrans x y z h1 h2 := by
  rw [ltK] at *
  cases h : blt x.key z.key
  ·rfl
  ·by_cases e1 : x.key = y.key
   ·rw [e1, h2] at h; cases h
   ·by_cases e2 : y.key = z.key
    ·rw [← e2, h1] at h; cases h
    ·have a1 : blt y.key x.key = true := (blt_tot e1).resolve_left (by rw [h1]; simp)
     have a2 : blt z.key y.key = true := (blt_tot e2).resolve_left (by rw [h2]; simp)
     have := blt_trans (blt_trans h a2) a1
     rw [blt_irr] at this
     cases this
set_option maxRecDepth 100000 in
theorem scmp_x (a b : ByteArray) (w : World) : Calls Try.prog 100 #[.string a, .string b] w fun e w' => e = .returned (.int .i64 (Lib.compareBytes a.data.toList b.data.toList)) ∧ w' = w := by
 go_enter Try.func100, Try.ntmps100
 go_wp2_with fail
 refine (cstr_any a b w).mono ?_
 rintro e w' ⟨rfl, hw⟩
 rw [hw]
 clear hw w'
 go_wp2_with fail
 go_ret
 exact ⟨rfl, rfl⟩
set_option maxRecDepth 100000 in
set_option maxHeartbeats 1000000 in
theorem first1_x (x y : G) (W : World) : Calls Try.prog 99 #[.agg #[.string x.key, .int .i64 (x.f 0), .int .i64 (x.f 1), .int .i64 (x.f 2), .int .i64 (x.f 3), .int .i64 (x.f 4), .int .i64 (x.f 5), .int .i64 (x.f 6), .int .i64 (x.f 7), .slice x.a x.ds.length x.cap], .agg #[.string y.key, .int .i64 (y.f 0), .int .i64 (y.f 1), .int .i64 (y.f 2), .int .i64 (y.f 3), .int .i64 (y.f 4), .int .i64 (y.f 5), .int .i64 (y.f 6), .int .i64 (y.f 7), .slice y.a y.ds.length y.cap]] W fun e w' => e = .returned (.int .i64 (cfK x y)) ∧ ∃ q os, w' = grow (W.drewN q) os := by
 have HS : Hid _ := scmp_x x.key y.key
 have ha : ∃ os, (W.alloc (.cells #[.string x.key, .int .i64 (x.f 0), .int .i64 (x.f 1), .int .i64 (x.f 2), .int .i64 (x.f 3), .int .i64 (x.f 4), .int .i64 (x.f 5), .int .i64 (x.f 6), .int .i64 (x.f 7), .slice x.a x.ds.length x.cap] 27)).alloc (.cells #[.string y.key, .int .i64 (y.f 0), .int .i64 (y.f 1), .int .i64 (y.f 2), .int .i64 (y.f 3), .int .i64 (y.f 4), .int .i64 (y.f 5), .int .i64 (y.f 6), .int .i64 (y.f 7), .slice y.a y.ds.length y.cap] 27) = grow W os := ⟨_, by rw [alloc_eq_grow, alloc_eq_grow, grow_grow]⟩
 have C1 := (Cel.new W 27 #[.string x.key, .int .i64 (x.f 0), .int .i64 (x.f 1), .int .i64 (x.f 2), .int .i64 (x.f 3), .int .i64 (x.f 4), .int .i64 (x.f 5), .int .i64 (x.f 6), .int .i64 (x.f 7), .slice x.a x.ds.length x.cap]).alloc (.cells #[.string y.key, .int .i64 (y.f 0), .int .i64 (y.f 1), .int .i64 (y.f 2), .int .i64 (y.f 3), .int .i64 (y.f 4), .int .i64 (y.f 5), .int .i64 (y.f 6), .int .i64 (y.f 7), .slice y.a y.ds.length y.cap] 27)
 have C2 := Cel.new1 W (.cells #[.string x.key, .int .i64 (x.f 0), .int .i64 (x.f 1), .int .i64 (x.f 2), .int .i64 (x.f 3), .int .i64 (x.f 4), .int .i64 (x.f 5), .int .i64 (x.f 6), .int .i64 (x.f 7), .slice x.a x.ds.length x.cap] 27) 27 #[.string y.key, .int .i64 (y.f 0), .int .i64 (y.f 1), .int .i64 (y.f 2), .int .i64 (y.f 3), .int .i64 (y.f 4), .int .i64 (y.f 5), .int .i64 (y.f 6), .int .i64 (y.f 7), .slice y.a y.ds.length y.cap]
 go_enter Try.func99, Try.ntmps99
 go_upto_region 1 with fail
 generalize hv : (W.alloc (.cells #[.string x.key, .int .i64 (x.f 0), .int .i64 (x.f 1), .int .i64 (x.f 2), .int .i64 (x.f 3), .int .i64 (x.f 4), .int .i64 (x.f 5), .int .i64 (x.f 6), .int .i64 (x.f 7), .slice x.a x.ds.length x.cap] 27)).alloc (.cells #[.string y.key, .int .i64 (y.f 0), .int .i64 (y.f 1), .int .i64 (y.f 2), .int .i64 (y.f 3), .int .i64 (y.f 4), .int .i64 (y.f 5), .int .i64 (y.f 6), .int .i64 (y.f 7), .slice y.a y.ds.length y.cap] 27) = V at C1 C2 ha ⊢
 have HA : Hid _ := ha
 have x0 : V.cell? ⟨W.heap.size, 0, none⟩ = some (.string x.key) := C1.cell 0
 have y0 : V.cell? ⟨W.heap.size + 1, 0, none⟩ = some (.string y.key) := C2.cell 0
 clear hv C1 C2 ha
 go_wp2_with fail
 refine (HS.out _).mono ?_
 rintro e w9 ⟨rfl, hw⟩
 rw [hw]
 clear hw w9
 go_wp2_with fail
 go_ret
 obtain ⟨os, hos⟩ := HA.out
 exact ⟨rfl, 0, os, hos⟩
theorem cmpK [Inhabited G] (b o n : Nat) (w : World) : CmpLays Try.prog 99 #[] gcs 10 cfK b o n w := fun _ _ _ _ x y => first1_x x y _
set_option maxRecDepth 100000 in
theorem dgins_nil (c : Nat) (f : Value) (w : World) : Calls Try.prog 147 #[.slice none 0 c, .int .i64 0, .int .i64 0, f] w fun e w' => e = .returned (.tuple #[]) ∧ w' = w := by
 go_enter Try.func147, Try.ntmps147
 go_wp2_with fail
 go_loopw [8] (fun y wr => y = .int .i64 1 ∧ wr = w) (fun _ _ => 0)
 case atStart => exact ⟨rfl, rfl⟩
 case round =>
  obtain ⟨rfl, rfl⟩ := hrel
  go_wp2_with fail
  go_end0
  exact ⟨rfl, rfl⟩
set_option maxRecDepth 100000 in
theorem dgstable_nil (c : Nat) (f : Value) (w : World) : Calls Try.prog 133 #[.slice none 0 c, .int .i64 0, f] w fun e w' => e = .returned (.tuple #[]) ∧ w' = w := by
 have HC : Hid _ := dgins_nil c f w
 go_enter Try.func133, Try.ntmps133
 go_wp2_with fail
 go_loopw [7, 8] (fun y z wr => y = .int .i64 0 ∧ z = .int .i64 20 ∧ wr = w) (fun _ _ _ => 0)
 case atStart => exact ⟨rfl, rfl, rfl⟩
 case round =>
  obtain ⟨rfl, rfl, rfl⟩ := hrel
  go_wp2_with fail
  refine Calls.mono HC.out ?_
  rintro e w9 ⟨rfl, hw⟩
  rw [hw]
  clear hw w9
  go_wp2_with fail
  go_loopw [6] (fun y wq => y = .int .i64 20 ∧ wq = wr) (fun _ _ => 0)
  case atStart => exact ⟨rfl, rfl⟩
  case round =>
   obtain ⟨rfl, hq⟩ := hrel
   go_wp2_with fail
   go_end0
   first | exact ⟨rfl, hq⟩ | exact ⟨rfl, rfl⟩
set_option maxRecDepth 100000 in
theorem dgsorted_any (t : Option Addr) (c : Nat) (gs : List G) (w : World) (h : OwnG 27 10 gcs w t c gs) (hl : gs.length ≤ 1000000) :
  Calls Try.prog 98 #[.slice t gs.length c, .func (.func 99) #[] #[]] w fun e w' => e = .returned (.tuple #[]) ∧ ∃ gs', Ord (ltOf cfK) gs' ∧ Kp (ltOf cfK) gs' gs ∧ gs'.length ≤ c ∧ (∀ i x, gs'[i]? = some x → ∃ g, t = some ⟨g, 0, none⟩ ∧ ∀ j u, (gcs x)[j]? = some u → w'.cell? ⟨g, i * 10 + j, none⟩ = some u) ∧ Off (fun k => blk t = some k) w w' := by
 haveI : Inhabited G := ⟨⟨⟨#[]⟩, fun _ => 0, none, 0, []⟩⟩
 have hlc : gs.length ≤ c := by
  rcases h.row.2 with ⟨hv, h0⟩ | ⟨g, c, cur, hv, hb, hh, hc, -⟩
  ·omega
  ·simp only [Value.slice.injEq] at hv
   obtain ⟨-, -, rfl⟩ := hv
   exact hc
 have hsh : (t = none ∧ gs = []) ∨ ∃ g, t = some ⟨g, 0, none⟩ ∧ g < w.heap.size := by
  rcases h.row.2 with ⟨hv, h0⟩ | ⟨g, c, cur, hv, hb, hh, -⟩
  ·simp only [Value.slice.injEq] at hv
   exact .inl ⟨hv.1, List.eq_nil_of_length_eq_zero h0⟩
  ·simp only [Value.slice.injEq] at hv
   exact .inr ⟨g, hv.1, lt_of_block hh⟩
 rcases hsh with ⟨rfl, rfl⟩ | ⟨g, rfl, hg⟩
 ·have hz : c = 0 := by
   rcases h.row.2 with ⟨hv, -⟩ | ⟨g, c, cur, hv, -⟩
   ·simp only [Value.slice.injEq] at hv
    exact hv.2.2
   ·simp only [Value.slice.injEq] at hv
    cases hv.1
  subst hz
  have HC : Hid _ := dgstable_nil 0 (.func (.func 99) #[] #[]) w
  go_enter Try.func98, Try.ntmps98
  go_wp2_with fail
  refine Calls.mono HC.out ?_
  rintro e w9 ⟨rfl, hw⟩
  rw [hw]
  clear hw w9
  go_wp2_with fail
  go_end0
  exact ⟨rfl, [], by simp [Ord], Kp.refl _, by simp, fun i x hi => by simp at hi, Off.refl _ _⟩
 ·have hH := h.holds gcs_len (by omega)
  have R : RowK gcs 10 w g 0 gs.toArray := ⟨gcs_len, fun x => gcs_one x, hH, hg⟩
  have S0 : SWK gcs 10 w g 0 gs.toArray w := ⟨0, #[], by unfold sortWorldK; rw [grow_empty]; exact (putRowK_self gcs 10 w g 0 _ hH).symm⟩
  have ez : gs.toArray.size = gs.length := by simp
  have HC : Hid _ := dgstable_any gcs cfK swoK g 0 c gs.toArray w R (cmpK g 0 _ w) (by rw [ez]; omega) S0
  rw [ez] at HC
  go_enter Try.func98, Try.ntmps98
  go_wp2_with fail
  refine Calls.mono HC.out ?_
  rintro e w' ⟨rfl, d', ho, hk, S⟩
  have HF : Hid (∃ gs', Ord (ltOf cfK) gs' ∧ Kp (ltOf cfK) gs' gs ∧ gs'.length ≤ c ∧ (∀ i x, gs'[i]? = some x → ∃ g2, some ⟨g, 0, none⟩ = some (⟨g2, 0, none⟩ : Addr) ∧ ∀ j u, (gcs x)[j]? = some u → w'.cell? ⟨g2, i * 10 + j, none⟩ = some u) ∧ Off (fun k => blk (some ⟨g, 0, none⟩) = some k) w w') := by
   have hk' : Kp (ltOf cfK) d'.toList gs := by simpa using hk
   have hsz : d'.size = gs.length := by rw [← Array.length_toList, hk'.len]
   have hH' := S.holds hg hH (by rw [hsz]; simp)
   refine ⟨d'.toList, ho, hk', by rw [hk'.len]; exact hlc, fun i x hi => ⟨g, rfl, fun j u hj => ?_⟩, (sw_off S).mono (fun i _ e => by subst e; rfl)⟩
   have hi' : i < d'.size := by
    obtain ⟨h, -⟩ := List.getElem?_eq_some_iff.1 hi
    simpa using h
   have e1 : d'[i]! = x := by
    rw [getElem!_pos d' i hi']
    obtain ⟨h, e⟩ := List.getElem?_eq_some_iff.1 hi
    simpa using e
   have hj' : j < 10 := by
    obtain ⟨h, -⟩ := List.getElem?_eq_some_iff.1 hj
    rwa [gcs_len] at h
   have k0 := (hH'.cell hi' (c := j) (by omega)).1
   rw [e1] at k0
   have e2 : (gcs x)[j]! = u := by
    obtain ⟨h, e⟩ := List.getElem?_eq_some_iff.1 hj
    rw [getElem!_pos (gcs x) j h]
    exact e
   rw [e2] at k0
   simpa using k0
  clear ho hk S
  go_wp2_with fail
  go_end0
  exact ⟨rfl, HF.out⟩
end Go.Proofs.Ytpnnpdfmoldiiaa

namespace Go.Proofs.Ytpnnpdfmoldiiaa
set_option maxRecDepth 100000
open Go.Shelf Go.RowKit Go.Lib Go.Sort
theorem flatD_len (m : List G) : (m.flatMap gcs).length = m.length * 10 := by
 induction m with
 | nil => simp
 | cons x m ih => rw [List.flatMap_cons, List.length_append, gcs_len, ih, List.length_cons, Nat.succ_mul]; omega
theorem Dgs.cells {w : World} {xt : Option Addr} {xc : Nat} {m : List G} (h : Dgs w xt xc m) {g o : Nat} (e : xt = some ⟨g, o, none⟩) : ∀ j u, (m.flatMap gcs)[j]? = some u → w.cell? ((⟨g, o, none⟩ : Addr).add j) = some u := by
 intro j u hj
 subst e
 obtain ⟨hl, -⟩ := List.getElem?_eq_some_iff.1 hj
 rw [flatD_len] at hl
 have hi : j / 10 < m.length := by omega
 have hr : j % 10 < 10 := Nat.mod_lt _ (by omega)
 obtain ⟨g', o', e', h0, -⟩ := h.at_ (j / 10) m[j / 10] (List.getElem?_eq_getElem hi)
 simp only [Option.some.injEq, Addr.mk.injEq, and_true] at e'
 obtain ⟨rfl, rfl⟩ := e'
 have ej : j = j / 10 * 10 + j % 10 := by omega
 have hlen : j % 10 < (gcs m[j / 10]).length := by rw [gcs_len]; exact hr
 obtain ⟨v, hv⟩ : ∃ v, (gcs m[j / 10])[j % 10]? = some v := ⟨_, List.getElem?_eq_getElem hlen⟩
 have hu : u = v := by
  have := flat_get (cs := gcs) gcs_len (List.getElem?_eq_getElem hi) hv
  rw [← ej, hj] at this
  exact Option.some.inj this
 rw [hu, add_lit, ← h0 _ _ hv]
 congr 2
 omega
theorem appD_run {w : World} {tad : Option Addr} {cap : Nat} {l : List G} (own : OwnG 27 10 gcs w tad cap l) {xt : Option Addr} {xc : Nat} {m : List G} (src : Dgs w xt xc m) (hn : xt = none → xc = 0) (hb : l.length + m.length ≤ 1000000) (ty : TypeId) :
  ∃ t' c' w', (Builtin.append_ #[30, 30] ty #[.slice tad l.length cap, .slice xt m.length xc]).run Try.prog w = .ok (.slice t' (l ++ m).length c') w' ∧ OwnG 27 10 gcs w' t' c' (l ++ m) ∧ Off (fun c => blk tad = some c) w w' ∧ (blk t' = blk tad ∨ blk t' = some w.heap.size) := by
 obtain ⟨i0, hi, hz0, hz1, hz2⟩ := info_parts Try.infoG
 cases xt with
 | none =>
  obtain rfl := hn rfl
  obtain rfl : m = [] := List.eq_nil_of_length_eq_zero (Nat.le_zero.1 src.len)
  refine ⟨tad, cap, w, ?_, by rw [List.append_nil]; exact own, Off.refl _ w, .inl rfl⟩
  rw [List.append_nil]
  exact run_append_owned_none (P := Try.prog) (w := w) 0 30 ty 27 i0 10 Try.underlying30 hi _ _ _ own.row
 | some ad =>
  have hc : ∀ j u, (m.flatMap gcs)[j]? = some u → w.cell? (ad.add j) = some u := by
   cases m with
   | nil => intro j u hj; simp at hj
   | cons x m =>
    obtain ⟨g, o, e1, -⟩ := src.at_ 0 x rfl
    obtain rfl := Option.some.inj e1
    exact src.cells rfl
  have hbm : (l.length + m.length) * 104 ≤ 140737488355328 := by omega
  obtain ⟨v', w', hr, own', grow', -, hat⟩ := run_append_own_at (P := Try.prog) w 0 30 ty 27 i0 _ 10 104 Try.underlying30 hi hz0 hz1 hz2 rfl (by omega) _ _ _ own.row ad m.length xc (m.flatMap gcs) (flatD_len m) hc (fun u hu => by
   simp only [List.mem_flatMap] at hu
   obtain ⟨x, -, hu⟩ := hu
   exact gcs_one x u hu) (by unfold maxLen; omega) hbm (Nat.zero_le _)
  rw [← List.flatMap_append, ← List.length_append] at own'
  obtain ⟨t', c', rfl⟩ : ∃ t' c', v' = .slice t' (l ++ m).length c' := by
   rcases own'.2 with ⟨rfl, h0⟩ | ⟨g, c, cur, hv, -⟩
   ·exact ⟨none, 0, by rw [h0]⟩
   ·exact ⟨_, _, hv⟩
  rw [blk_own, blk_own] at hat
  rw [blk_own] at grow'
  exact ⟨t', c', w', hr, ⟨own'⟩, (Off.refl _ w).grown grow' (fun k hk => .inl hk), hat⟩
theorem wpList_appD {w : World} {ops : Array Oper} {rest : List Oper} {o : Oper} {a : Act} {Q : Exit → Act → World → Prop} (hgd : o.guard = none) (s x : Operand)
  (ho : o.op = .call { callee := .builtin .append, args := #[s, x], argTypes := #[30, 30] })
  (tad : Option Addr) (cap : Nat) (l : List G) (hs : a.eval s = .slice tad l.length cap) (hown : OwnG 27 10 gcs w tad cap l)
  (xt : Option Addr) (xc : Nat) (k : List G) (hx : a.eval x = .slice xt k.length xc) (hr : Dgs w xt xc k) (hz : xt = none → xc = 0) (hb : l.length + k.length ≤ 1000000)
  (h : ∀ t' c' w' ys, Hid (ys = l ++ k) → OwnG 27 10 gcs w' t' c' ys → Off (fun c => blk tad = some c) w w' → (blk t' = blk tad ∨ blk t' = some w.heap.size) → wpList Try.prog ops Q rest (a.put o.dst (.slice t' ys.length c')) w') :
  wpList Try.prog ops Q (o :: rest) a w := by
 obtain ⟨a', c', w', hrun, own, off, hat⟩ := appD_run hown hr hz hb o.type
 refine wpList_plain hgd fun K' hK' => ?_
 unfold Oper.wp
 simp only [execOp, ho, resolve, invoke, builtin, Sem.run_bind, Sem.run_pure, Result.andThen_ok, List.map_toArray, List.map_cons, List.map_nil, hs, hx, hrun]
 exact hK' _ _ (h a' c' w' _ (show l ++ k = l ++ k from rfl) own off hat)
theorem eql_nilD (a : Option Addr) (l c : Nat) (W : World) : (binOp .eql 30 (.slice a l c) (.slice none 0 0)).run Try.prog W = .ok (.bool a.isNone) W := by
 have h : binOp .eql 30 (.slice a l c) (.slice none 0 0) = (do pure (.bool (← Op.equal 30 (.slice a l c) (.slice none 0 0)))) := rfl
 rw [h]
 simp [run_equal_slice_nil W 30 27 a l c Try.underlying30, Result.andThen]
theorem dgclone_any (t : Option Addr) (c : Nat) (l : List G) (hb : l.length ≤ 1000000) (w : World) (hs : Dgs w t c l) :
  Calls Try.prog 97 #[.slice t l.length c] w fun e w' => ∃ t' c', e = .returned (.slice t' l.length c') ∧ OwnG 27 10 gcs w' t' c' l ∧ (∀ k, blk t' = some k → w.heap.size ≤ k) ∧ Off (fun _ => False) w w' := by
 have hq := eql_nilD
 cases t with
 | none =>
  obtain rfl : l = [] := by
   cases l with
   | nil => rfl
   | cons v l => obtain ⟨b, off, e, -⟩ := hs.at_ 0 v rfl; cases e
  go_enter Try.func97, Try.ntmps97
  go_wp2
  go_ret
  exact ⟨none, 0, rfl, OwnG.nil _ _ _ w, fun k hk => by simp [blk] at hk, Off.refl _ w⟩
 | some ad =>
  have HS : Hid (Dgs w (some ad) c l) := hs
  clear hs
  have L0 : OwnG 27 10 gcs (w.alloc (.cells #[] 27)) (some ⟨w.heap.size, 0, none⟩) 0 [] := ⟨World.ownsRow_lit w #[] 0 (Nat.zero_le _) (by decide) rfl⟩
  have O0 : Off (fun _ => False) w (w.alloc (.cells #[] 27)) := (Off.refl _ w).alloc _
  go_enter Try.func97, Try.ntmps97
  go_wp2_with (at_builtin; refine wpList_appD rfl (.tmp 5) (.tmp 6) rfl _ 0 [] rfl L0 _ c l rfl (HS.out.off O0) (fun h => by cases h) (by simp; omega) ?_; intro t' c' w' ys hys own' off' at')
  go_ret
  obtain rfl : ys = l := hys.out
  refine ⟨t', c', rfl, own', fun k hk => ?_, O0.trans off' (fun i hi hb => ?_)⟩
  ·rcases at' with a | a
   ·rw [a] at hk
    simp [blk] at hk
    omega
   ·rw [a] at hk
    simp at hk
    omega
  ·simp [blk] at hb
   omega
structure Cut10 (w : World) (t : Option Addr) (c : Nat) (gs : List G) : Prop where
 len : gs.length ≤ c
 at_ : ∀ i x, gs[i]? = some x → ∃ g, t = some ⟨g, 0, none⟩ ∧ ∀ j u, (gcs x)[j]? = some u → w.cell? ⟨g, i * 10 + j, none⟩ = some u
theorem Cut10.offD {D : Nat → Prop} {w w' : World} {t : Option Addr} {c : Nat} {gs : List G} (h : Cut10 w t c gs) (o : Off D w w') (hD : ∀ k, k < w.heap.size → blk t = some k → ¬ D k) : Cut10 w' t c gs :=
 ⟨h.len, fun i x hi => by
  obtain ⟨g, rfl, hc⟩ := h.at_ i x hi
  refine ⟨g, rfl, fun j u hj => ?_⟩
  have h1 := hc j u hj
  rw [← h1]
  exact World.cell?_of_block (a := ⟨g, i * 10 + j, none⟩) (o.block g (cell_lt h1) (hD g (cell_lt h1) rfl))⟩
structure Fir (N q : Nat) (gs : List G) (w : World) : Prop where
 is : ∃ t c gs', Cel q 30 #[.slice t (List.length gs') c] w ∧ Ord (ltOf cfK) gs' ∧ Kp (ltOf cfK) gs' gs ∧ Cut10 w t c gs' ∧ N ≤ q ∧ (∀ k, blk t = some k → N ≤ k ∧ k < w.heap.size)
theorem Fir.off {D : Nat → Prop} {N q : Nat} {gs : List G} {w w' : World} (h : Fir N q gs w) (o : Off D w w') (hD : ∀ k, D k → w.heap.size ≤ k) : Fir N q gs w' := by
 obtain ⟨t, c, gs', h1, h2, h3, h4, h5, h6⟩ := h.is
 exact ⟨t, c, gs', h1.off o (fun e => by have := hD q e; have := h1.lt; omega), h2, h3, h4.offD o (fun k hk _ e => by have := hD k e; omega), h5, fun k hk => ⟨(h6 k hk).1, Nat.lt_of_lt_of_le (h6 k hk).2 o.size⟩⟩
set_option maxHeartbeats 1000000 in
theorem firsts_any (t : Option Addr) (c : Nat) (gs : List G) (hb : gs.length ≤ 1000000) (w : World) (hs : Dgs w t c gs) :
  Calls Try.prog 60 #[.slice t gs.length c] w fun e w' => ∃ q : Nat, e = .returned (.func (.func 101) #[] #[.pointer (some ⟨q, 0, none⟩)]) ∧ Fir w.heap.size q gs w' ∧ Off (fun _ => False) w w' := by
 have HC : Hid _ := dgclone_any t c gs hb w hs
 have hmf : ∀ (fn : Fn) (first cap : Array Value) (w : World), (Instr.makeFunc fn first cap).run Try.prog w = .ok (.func fn first cap) w := fun _ _ _ _ => rfl
 clear hs
 go_enter Try.func60, Try.ntmps60
 go_wp2_with fail
 refine Calls.mono HC.out ?_
 rintro e w1 ⟨t1, c1, rfl, own1, hat1, o1⟩
 have CQ := Cel.new w1 30 #[.slice t1 gs.length c1]
 have O2 : Off (fun _ => False) w1 (w1.alloc (.cells #[.slice t1 gs.length c1] 30)) := (Off.refl _ w1).alloc _
 have HOW1 : Hid _ := own1
 have HAT1 : Hid _ := hat1
 have HO1 : Hid _ := o1
 clear own1 hat1 o1 HC
 go_upto_region 2 with fail
 have HNQ : Hid (∀ k, blk t1 = some k → k ≠ w1.heap.size) := fun k hk e => by have := HOW1.out.lt k hk; omega
 have HQ1 : Hid (w.heap.size ≤ w1.heap.size) := HO1.out.size
 generalize w1.heap.size = q at CQ HNQ HQ1 ⊢
 generalize w1.alloc (.cells #[.slice t1 gs.length c1] 30) = w2 at CQ O2 ⊢
 have HOW2 : Hid _ := HOW1.out.off O2 (fun _ _ _ h => h)
 have HO2 : Hid _ := HO1.out.trans O2 (fun _ _ h => h)
 have HCQ : Hid _ := CQ
 have q0 : w2.cell? ⟨q, 0, none⟩ = some (.slice t1 gs.length c1) := CQ.cell 0
 have HS : Hid _ := dgsorted_any t1 c1 gs w2 HOW2.out hb
 clear CQ O2 HOW1 HO1
 go_wp2_with fail
 refine Calls.mono HS.out ?_
 rintro e w3 ⟨rfl, gs', ho, hk, hl, hc, o3⟩
 have HF : Hid (Fir w.heap.size q gs w3) := ⟨t1, c1, gs', by rw [hk.len]; exact HCQ.out.off o3 (fun e => HNQ.out q e rfl), ho, hk, ⟨hl, hc⟩, HQ1.out, fun k hk => ⟨HAT1.out k hk, Nat.lt_of_lt_of_le (HOW2.out.lt k hk) o3.size⟩⟩
 have HO3 : Hid (Off (fun _ => False) w w3) := HO2.out.trans o3 (fun k hk e => by have := HAT1.out k e; omega)
 clear ho hk hl hc o3 q0 HS
 go_wp2_with fail
 go_ret
 exact ⟨q, rfl, HF.out, HO3.out⟩
end Go.Proofs.Ytpnnpdfmoldiiaa

namespace Go.Proofs.Ytpnnpdfmoldiiaa
set_option maxRecDepth 100000
open Go.Shelf Go.RowKit Go.Lib Go.Sort
theorem first21_any (x : G) (key : ByteArray) (W : World) : Calls Try.prog 103 #[.agg #[.string x.key, .int .i64 (x.f 0), .int .i64 (x.f 1), .int .i64 (x.f 2), .int .i64 (x.f 3), .int .i64 (x.f 4), .int .i64 (x.f 5), .int .i64 (x.f 6), .int .i64 (x.f 7), .slice x.a x.ds.length x.cap], .string key] W fun e w' => e = .returned (.int .i64 (Lib.compareBytes x.key.data.toList key.data.toList)) ∧ Off (fun _ => False) W w' := by
 have HS : Hid _ := scmp_x x.key key
 have C1 := Cel.new W 27 #[.string x.key, .int .i64 (x.f 0), .int .i64 (x.f 1), .int .i64 (x.f 2), .int .i64 (x.f 3), .int .i64 (x.f 4), .int .i64 (x.f 5), .int .i64 (x.f 6), .int .i64 (x.f 7), .slice x.a x.ds.length x.cap]
 have O1 : Off (fun _ => False) W (W.alloc (.cells #[.string x.key, .int .i64 (x.f 0), .int .i64 (x.f 1), .int .i64 (x.f 2), .int .i64 (x.f 3), .int .i64 (x.f 4), .int .i64 (x.f 5), .int .i64 (x.f 6), .int .i64 (x.f 7), .slice x.a x.ds.length x.cap] 27)) := (Off.refl _ W).alloc _
 go_enter Try.func103, Try.ntmps103
 go_upto_region 1 with fail
 generalize W.alloc (.cells #[.string x.key, .int .i64 (x.f 0), .int .i64 (x.f 1), .int .i64 (x.f 2), .int .i64 (x.f 3), .int .i64 (x.f 4), .int .i64 (x.f 5), .int .i64 (x.f 6), .int .i64 (x.f 7), .slice x.a x.ds.length x.cap] 27) = V at C1 O1 ⊢
 have HO : Hid _ := O1
 have x0 : V.cell? ⟨W.heap.size, 0, none⟩ = some (.string x.key) := C1.cell 0
 clear C1 O1
 go_wp2_with fail
 refine (HS.out _).mono ?_
 rintro e w9 ⟨rfl, hw⟩
 rw [hw]
 clear hw w9
 go_wp2_with fail
 go_ret
 exact ⟨rfl, HO.out⟩
structure AtK (gs : List G) (key : ByteArray) (n : Nat) (b : Bool) : Prop where
 le : n ≤ gs.length
 lo : ∀ i x, i < n → gs[i]? = some x → blt x.key key = true
 hit : b = true → ∃ x, gs[n]? = some x ∧ x.key = key
 no : b = false → ∀ x ∈ gs, x.key ≠ key
theorem ordK_lt {gs : List G} (h : Ord (ltOf cfK) gs) {i j : Nat} {x y : G} (hx : gs[i]? = some x) (hy : gs[j]? = some y) (hij : i ≤ j) {key : ByteArray} (hk : blt y.key key = true) : blt x.key key = true := by
 rcases Nat.lt_or_ge i j with hlt | hge
 ·obtain ⟨hi, rfl⟩ := List.getElem?_eq_some_iff.1 hx
  obtain ⟨hj, rfl⟩ := List.getElem?_eq_some_iff.1 hy
  have h1 := List.pairwise_iff_getElem.1 h i j hi hj hlt
  rw [ltK] at h1
  by_cases e : gs[i].key = gs[j].key
  ·rw [e]; exact hk
  ·exact blt_trans ((blt_tot e).resolve_right (by rw [h1]; simp)) hk
 ·obtain rfl : i = j := by omega
  rw [hx] at hy
  cases hy
  exact hk
theorem cmpK_lt (a b : ByteArray) : Lib.compareBytes a.data.toList b.data.toList < 0 ↔ blt a b = true := cmpB_lt _ _
theorem cmpK_eq (a b : ByteArray) : Lib.compareBytes a.data.toList b.data.toList = 0 ↔ a = b := (cmpB_eq _ _).trans ⟨fun h => kb_inj h, fun h => by rw [h]⟩
set_option maxHeartbeats 1000000 in
theorem searchK_any (t : Option Addr) (c : Nat) (gs : List G) (key : ByteArray) (w : World) (h : Cut10 w t c gs) (ho : Ord (ltOf cfK) gs) (hl : gs.length ≤ 1000000) :
  Calls Try.prog 102 #[.slice t gs.length c, .string key, .func (.func 103) #[] #[]] w fun e w' => ∃ (n : Nat) (b : Bool), e = .returned (.tuple #[.int .i64 (n : Int), .bool b]) ∧ AtK gs key n b ∧ Off (fun _ => False) w w' := by
 have HR : Hid _ := h
 have HS : Hid _ := ho
 clear h ho
 go_enter Try.func102, Try.ntmps102
 go_wp2_with fail
 go_loopw [9, 10] (fun y z wr => ∃ i j : Nat, y = .int .i64 (i : Int) ∧ z = .int .i64 (j : Int) ∧ i ≤ j ∧ j ≤ gs.length ∧ (∀ n x, n < i → gs[n]? = some x → blt x.key key = true) ∧ (∀ n x, j ≤ n → gs[n]? = some x → blt x.key key = false) ∧ Off (fun _ => False) w wr) (fun y z _ => (intOf z - intOf y).toNat)
 case atStart => exact ⟨0, gs.length, rfl, rfl, by omega, by omega, fun n x hn => by omega, fun n x hn hx => by
  obtain ⟨h, -⟩ := List.getElem?_eq_some_iff.1 hx
  omega, Off.refl _ w⟩
 case round =>
  obtain ⟨i, j, rfl, rfl, hij, hjl, hlo, hhi, O⟩ := hrel
  have HLO : Hid _ := hlo
  have HHI : Hid _ := hhi
  have HO : Hid _ := O
  clear hlo hhi O
  by_cases hlt : i < j
  ·have e1 : decide ((i : Int) < (j : Int)) = true := decide_eq_true (by omega)
   have e2 : decide (i < j) = true := decide_eq_true hlt
   obtain ⟨h, hh⟩ : ∃ h : Nat, h = (i + j) / 2 := ⟨_, rfl⟩
   have hhi : ((i : Int) + (j : Int)) / 2 = (h : Int) := by omega
   have hh1 : i ≤ h := by omega
   have hh2 : h < j := by omega
   clear hh
   have hhl : h < gs.length := by omega
   obtain ⟨x, hx⟩ : ∃ x, gs[h]? = some x := ⟨_, List.getElem?_eq_getElem hhl⟩
   obtain ⟨g, rfl, kc⟩ := (HR.out.offD HO.out (fun _ _ _ h => h)).at_ h x hx
   obtain ⟨k0, k1, k2, k3, k4, k5, k6, k7, k8, k9⟩ := dg10 kc
   have HX : Hid _ := hx
   clear hx kc
   go_wp2_with fail
   refine (first21_any x key _).mono ?_
   rintro e w1 ⟨rfl, o1⟩
   have HO1 : Hid _ := HO.out.trans o1 (fun _ _ h => h)
   clear o1 k0 k1 k2 k3 k4 k5 k6 k7 k8 k9
   have HC : Hid _ := cmpK_lt x.key key
   generalize Lib.compareBytes x.key.data.toList key.data.toList = q at *
   by_cases hr0 : q < 0
   ·have d1 : decide (q < 0) = true := decide_eq_true hr0
    have HP : Hid (blt x.key key = true) := HC.out.1 hr0
    clear hr0 HC
    go_wp2_with fail
    go_roundw
    case rel => exact ⟨h + 1, j, by go_num, rfl, by omega, by omega, fun n y hn hy => ordK_lt HS.out hy HX.out (by omega) HP.out, HHI.out, HO1.out⟩
    case measure => simp [intOf]; omega
   ·have d1 : decide (q < 0) = false := decide_eq_false hr0
    have HP : Hid (blt x.key key = false) := by
     show _ = _
     cases hb : blt x.key key
     ·rfl
     ·exact absurd (HC.out.2 hb) hr0
    clear hr0 HC
    go_wp2_with fail
    go_roundw
    case rel =>
     refine ⟨i, h, rfl, rfl, by omega, by omega, HLO.out, fun n y hn hy => ?_, HO1.out⟩
     cases hb : blt y.key key
     ·rfl
     ·have := ordK_lt HS.out HX.out hy hn hb
      rw [HP.out] at this
      cases this
    case measure => simp [intOf]; omega
  ·obtain rfl : i = j := by omega
   have e1 : decide ((i : Int) < (i : Int)) = false := decide_eq_false (by omega)
   have e2 : decide (i < i) = false := decide_eq_false (by omega)
   by_cases hil : i < gs.length
   ·have i1 : decide ((i : Int) < (gs.length : Int)) = true := decide_eq_true (by omega)
    have i2 : decide (i < gs.length) = true := decide_eq_true hil
    obtain ⟨x, hx⟩ : ∃ x, gs[i]? = some x := ⟨_, List.getElem?_eq_getElem hil⟩
    obtain ⟨g, rfl, kc⟩ := (HR.out.offD HO.out (fun _ _ _ h => h)).at_ i x hx
    obtain ⟨k0, k1, k2, k3, k4, k5, k6, k7, k8, k9⟩ := dg10 kc
    have HX : Hid _ := hx
    clear hx kc
    go_wp2_with fail
    refine (first21_any x key _).mono ?_
    rintro e w1 ⟨rfl, o1⟩
    have HO1 : Hid _ := HO.out.trans o1 (fun _ _ h => h)
    clear o1 k0 k1 k2 k3 k4 k5 k6 k7 k8 k9
    have HC : Hid _ := cmpK_eq x.key key
    generalize Lib.compareBytes x.key.data.toList key.data.toList = q at *
    have HAK : Hid (AtK gs key i (q == 0)) := ⟨by omega, HLO.out, fun hb => ⟨x, HX.out, HC.out.1 (by simpa using hb)⟩, fun hb y hy e => by
     obtain ⟨n, hn⟩ := List.getElem?_of_mem hy
     have hb' : ¬ q = 0 := by simpa using hb
     rcases Nat.lt_or_ge n i with h1 | h1
     ·have := HLO.out n y h1 hn
      rw [e, blt_irr] at this
      cases this
     ·have h2 := HHI.out n y h1 hn
      have h3 := HHI.out i x (Nat.le_refl _) HX.out
      rcases Nat.lt_or_ge i n with h4 | h4
      ·obtain ⟨l1, e1⟩ := List.getElem?_eq_some_iff.1 HX.out
       obtain ⟨l2, e2⟩ := List.getElem?_eq_some_iff.1 hn
       have h5 := List.pairwise_iff_getElem.1 HS.out i n l1 l2 h4
       rw [ltK, e1, e2] at h5
       have hne : x.key ≠ key := fun hh => hb' (HC.out.2 hh)
       rcases blt_tot hne with h6 | h6
       ·rw [h6] at h3; cases h3
       ·rw [← e] at h6; rw [h6] at h5; cases h5
      ·obtain rfl : i = n := by omega
       have := HX.out
       rw [hn] at this
       cases this
       exact hb' (HC.out.2 e)⟩
    generalize hqq : (q == 0) = bq at HAK
    go_wp2_with fail
    go_ret2
    exact ⟨i, bq, by first | rfl | rw [← hqq] | (rw [← hqq]; rfl), HAK.out, HO1.out⟩
   ·have i1 : decide ((i : Int) < (gs.length : Int)) = false := decide_eq_false (by omega)
    have i2 : decide (i < gs.length) = false := decide_eq_false hil
    have HAK : Hid (AtK gs key i false) := ⟨by omega, HLO.out, fun hb => (by cases hb), fun _ y hy e => by
     obtain ⟨n, hn⟩ := List.getElem?_of_mem hy
     obtain ⟨l2, -⟩ := List.getElem?_eq_some_iff.1 hn
     have := HLO.out n y (by omega) hn
     rw [e, blt_irr] at this
     cases this⟩
    go_wp2_with fail
    go_ret2
    exact ⟨i, false, rfl, HAK.out, HO.out⟩
def fstK (gs : List G) (key : ByteArray) : Option G := gs.find? fun g => decide (g.key = key)
theorem fst_keep {gs gs' : List G} (h : Kp (ltOf cfK) gs' gs) (key : ByteArray) : fstK gs' key = fstK gs key := by
 have := h.keep (fun g => decide (g.key = key)) (fun x y hx hy => by
  rw [ltK, of_decide_eq_true hx, of_decide_eq_true hy]
  exact blt_irr _)
 unfold fstK
 rw [← List.head?_filter, ← List.head?_filter, this]
theorem fst_at {gs : List G} {key : ByteArray} {n : Nat} (h : AtK gs key n true) : ∃ x, gs[n]? = some x ∧ fstK gs key = some x := by
 obtain ⟨x, hx, e⟩ := h.hit rfl
 refine ⟨x, hx, ?_⟩
 unfold fstK
 rw [List.find?_eq_some_iff_getElem]
 obtain ⟨hl, ex⟩ := List.getElem?_eq_some_iff.1 hx
 refine ⟨by simpa using e, n, hl, ex, fun j hj => ?_⟩
 have := h.lo j gs[j] hj (List.getElem?_eq_getElem (by omega))
 have hne : gs[j].key ≠ key := fun e => by rw [e, blt_irr] at this; cases this
 simpa using hne
theorem fst_no {gs : List G} {key : ByteArray} {n : Nat} (h : AtK gs key n false) : fstK gs key = none := by
 unfold fstK
 rw [List.find?_eq_none]
 intro x hx
 simpa using h.no rfl x hx
end Go.Proofs.Ytpnnpdfmoldiiaa

namespace Go.Proofs.Ytpnnpdfmoldiiaa
set_option maxRecDepth 100000
open Go.Shelf Go.RowKit Go.Lib Go.Sort
theorem Cel.sd10 {b : Nat} {t : TypeId} {x0 x1 x2 x3 x4 x5 x6 x7 x8 x9 : Value} {w : World} (h : Cel b t #[x0, x1, x2, x3, x4, x5, x6, x7, x8, x9] w) (key : ByteArray) (f : Nat → Int) (s : Value) : Cel b t #[.string key, .int .i64 (f 0), .int .i64 (f 1), .int .i64 (f 2), .int .i64 (f 3), .int .i64 (f 4), .int .i64 (f 5), .int .i64 (f 6), .int .i64 (f 7), s] ((((((((((w.setCell ⟨b, 0, none⟩ (.string key)).setCell ⟨b, 1, none⟩ (.int .i64 (f 0))).setCell ⟨b, 2, none⟩ (.int .i64 (f 1))).setCell ⟨b, 3, none⟩ (.int .i64 (f 2))).setCell ⟨b, 4, none⟩ (.int .i64 (f 3))).setCell ⟨b, 5, none⟩ (.int .i64 (f 4))).setCell ⟨b, 6, none⟩ (.int .i64 (f 5))).setCell ⟨b, 7, none⟩ (.int .i64 (f 6))).setCell ⟨b, 8, none⟩ (.int .i64 (f 7))).setCell ⟨b, 9, none⟩ s) := by
 replace h := h.set 0 (.string key)
 simp only [List.setIfInBounds_toArray, List.set_cons_zero] at h
 replace h := h.set 1 (.int .i64 (f 0))
 simp only [lsA, lsZ, lsS] at h
 replace h := h.set 2 (.int .i64 (f 1))
 simp only [lsA, lsZ, lsS] at h
 replace h := h.set 3 (.int .i64 (f 2))
 simp only [lsA, lsZ, lsS] at h
 replace h := h.set 4 (.int .i64 (f 3))
 simp only [lsA, lsZ, lsS] at h
 replace h := h.set 5 (.int .i64 (f 4))
 simp only [lsA, lsZ, lsS] at h
 replace h := h.set 6 (.int .i64 (f 5))
 simp only [lsA, lsZ, lsS] at h
 replace h := h.set 7 (.int .i64 (f 6))
 simp only [lsA, lsZ, lsS] at h
 replace h := h.set 8 (.int .i64 (f 7))
 simp only [lsA, lsZ, lsS] at h
 replace h := h.set 9 s
 simp only [lsA, lsZ, lsS] at h
 exact h
theorem Cel.cld10 {b : Nat} {t : TypeId} {x0 x1 x2 x3 x4 x5 x6 x7 x8 x9 : Value} {w : World} (h : Cel b t #[x0, x1, x2, x3, x4, x5, x6, x7, x8, x9] w) : Cel b t #[.string ⟨#[]⟩, .int .i64 0, .int .i64 0, .int .i64 0, .int .i64 0, .int .i64 0, .int .i64 0, .int .i64 0, .int .i64 0, .slice none 0 0] ((((((((((w.setCell ⟨b, 0, none⟩ (.string ⟨#[]⟩)).setCell ⟨b, 1, none⟩ (.int .i64 0)).setCell ⟨b, 2, none⟩ (.int .i64 0)).setCell ⟨b, 3, none⟩ (.int .i64 0)).setCell ⟨b, 4, none⟩ (.int .i64 0)).setCell ⟨b, 5, none⟩ (.int .i64 0)).setCell ⟨b, 6, none⟩ (.int .i64 0)).setCell ⟨b, 7, none⟩ (.int .i64 0)).setCell ⟨b, 8, none⟩ (.int .i64 0)).setCell ⟨b, 9, none⟩ (.slice none 0 0)) := by
 have := h.sd10 ⟨#[]⟩ zer (.slice none 0 0)
 simp only [zer] at this
 exact this
theorem Off.sd10 {D : Nat → Prop} {a w : World} {b : Nat} (h : Off D a w) (hb : D b ∨ a.heap.size ≤ b) (key : ByteArray) (f : Nat → Int) (s : Value) : Off D a ((((((((((w.setCell ⟨b, 0, none⟩ (.string key)).setCell ⟨b, 1, none⟩ (.int .i64 (f 0))).setCell ⟨b, 2, none⟩ (.int .i64 (f 1))).setCell ⟨b, 3, none⟩ (.int .i64 (f 2))).setCell ⟨b, 4, none⟩ (.int .i64 (f 3))).setCell ⟨b, 5, none⟩ (.int .i64 (f 4))).setCell ⟨b, 6, none⟩ (.int .i64 (f 5))).setCell ⟨b, 7, none⟩ (.int .i64 (f 6))).setCell ⟨b, 8, none⟩ (.int .i64 (f 7))).setCell ⟨b, 9, none⟩ s) :=
 ((((((((((h.setCell hb _).setCell hb _).setCell hb _).setCell hb _).setCell hb _).setCell hb _).setCell hb _).setCell hb _).setCell hb _).setCell hb _)
theorem Off.cld10 {D : Nat → Prop} {a w : World} {b : Nat} (h : Off D a w) (hb : D b ∨ a.heap.size ≤ b) : Off D a ((((((((((w.setCell ⟨b, 0, none⟩ (.string ⟨#[]⟩)).setCell ⟨b, 1, none⟩ (.int .i64 0)).setCell ⟨b, 2, none⟩ (.int .i64 0)).setCell ⟨b, 3, none⟩ (.int .i64 0)).setCell ⟨b, 4, none⟩ (.int .i64 0)).setCell ⟨b, 5, none⟩ (.int .i64 0)).setCell ⟨b, 6, none⟩ (.int .i64 0)).setCell ⟨b, 7, none⟩ (.int .i64 0)).setCell ⟨b, 8, none⟩ (.int .i64 0)).setCell ⟨b, 9, none⟩ (.slice none 0 0)) :=
 ((((((((((h.setCell hb _).setCell hb _).setCell hb _).setCell hb _).setCell hb _).setCell hb _).setCell hb _).setCell hb _).setCell hb _).setCell hb _)
theorem results_dg {fn : Func} {p u : Tmp} (h : fn.results = #[.cell p 27, .tmp u]) {tmps : Array Value} {w : World} {b : Nat} {x0 x1 x2 x3 x4 x5 x6 x7 x8 x9 : Value} (hp : tmps.getD p undef = .pointer (some ⟨b, 0, none⟩)) {v : Value} (hu : tmps.getD u undef = v) (hc : Cel b 27 #[x0, x1, x2, x3, x4, x5, x6, x7, x8, x9] w) :
  (results fn tmps).run Try.prog w = .ok (.tuple #[.agg #[x0, x1, x2, x3, x4, x5, x6, x7, x8, x9], v]) w := by
 rw [results_cell_tmp h]
 have ha : (asAddr (.pointer (some ⟨b, 0, none⟩))).run Try.prog w = .ok ⟨b, 0, none⟩ w := rfl
 rw [hp, hu, ha]
 obtain ⟨d, hd⟩ : ∃ d, Try.prog.underlying 27 = some (.struct d) := ⟨_, Try.underlying27⟩
 have hv := run_loadVar_row (P := Try.prog) w b 27 27 _ (0, 0) (.struct d) hc.is hd rfl (by kernel_rfl)
 simp only [Result.andThen, hv]
def zG : G := ⟨⟨#[]⟩, zer, none, 0, []⟩
set_option maxHeartbeats 1000000 in
theorem told_any (N q : Nat) (gs : List G) (key : ByteArray) (w : World) (h : Fir N q gs w) (hl : gs.length ≤ 1000000) :
  Calls Try.prog 101 #[.string key, .pointer (some ⟨q, 0, none⟩)] w fun e w' => ∃ x : G, e = .returned (.tuple #[.agg #[.string x.key, .int .i64 (x.f 0), .int .i64 (x.f 1), .int .i64 (x.f 2), .int .i64 (x.f 3), .int .i64 (x.f 4), .int .i64 (x.f 5), .int .i64 (x.f 6), .int .i64 (x.f 7), .slice x.a x.ds.length x.cap], .bool (fstK gs key).isSome]) ∧ x = (fstK gs key).getD zG ∧ Off (fun _ => False) w w' := by
 obtain ⟨t, c, gs', cq, ho, hk, hc, -, hb⟩ := h.is
 have HFK : Hid _ := fst_keep hk key
 have hl' : gs'.length ≤ 1000000 := by rw [hk.len]; exact hl
 have C0 := Cel.new w 27 #[.string ⟨#[]⟩, .int .i64 0, .int .i64 0, .int .i64 0, .int .i64 0, .int .i64 0, .int .i64 0, .int .i64 0, .int .i64 0, .slice none 0 0]
 have O0 : Off (fun _ => False) w (w.alloc (.cells #[.string ⟨#[]⟩, .int .i64 0, .int .i64 0, .int .i64 0, .int .i64 0, .int .i64 0, .int .i64 0, .int .i64 0, .int .i64 0, .slice none 0 0] 27)) := (Off.refl _ w).alloc _
 have HCQ : Hid _ := cq.off O0 (fun h => h)
 have HCT : Hid _ := hc.offD O0 (fun _ _ _ h => h)
 have HO : Hid _ := ho
 have HLT : Hid (∀ k, blk t = some k → k < w.heap.size) := fun k hk => (hb k hk).2
 clear cq ho hk hc hb h
 go_enter Try.func101, Try.ntmps101
 go_upto_region 1 with fail
 have HRQ : Hid (w.heap.size ≤ w.heap.size) := Nat.le_refl _
 generalize hr : w.heap.size = r at C0 HRQ ⊢
 have HR : Hid (w.heap.size = r) := hr
 generalize w.alloc (.cells #[.string ⟨#[]⟩, .int .i64 0, .int .i64 0, .int .i64 0, .int .i64 0, .int .i64 0, .int .i64 0, .int .i64 0, .int .i64 0, .slice none 0 0] 27) = w1 at C0 O0 HCQ HCT ⊢
 have HO0 : Hid _ := O0
 have HC0 : Hid _ := C0
 have q0 : w1.cell? ⟨q, 0, none⟩ = some (.slice t gs'.length c) := HCQ.out.cell 0
 have HS : Hid _ := searchK_any t c gs' key w1 HCT.out HO.out hl'
 clear C0 O0 hr
 go_wp2_with fail
 refine Calls.mono HS.out ?_
 rintro e w2 ⟨n, b, rfl, at_, o2⟩
 have HC2 : Hid _ := HC0.out.off o2 (fun h => h)
 have HQ2 : Hid _ := HCQ.out.off o2 (fun h => h)
 have HT2 : Hid _ := HCT.out.offD o2 (fun _ _ _ h => h)
 have HF2 : Hid _ := HO0.out.trans o2 (fun _ _ h => h)
 have HAT : Hid _ := at_
 clear o2 q0 HS at_
 cases b
 ·have HN : Hid (fstK gs key = none) := by show _ = _; rw [← HFK.out]; exact fst_no HAT.out
  obtain ⟨z0, z1, z2, z3, z4, z5, z6, z7, z8, z9⟩ := cel10 HC2.out
  have fz := HC2.out.free
  go_wp2_with fail
  have E2 := HC2.out.cld10
  have OE := HF2.out.cld10 (b := r) (.inr (Nat.le_of_eq HR.out))
  refine bodyPost_ret (results_dg rfl rfl rfl E2) rfl ?_
  rw [HN.out]
  exact ⟨zG, rfl, rfl, OE⟩
 ·obtain ⟨x, hx, hf⟩ := fst_at HAT.out
  have HN : Hid (fstK gs key = some x) := by show _ = _; rw [← HFK.out]; exact hf
  have hnl : n < gs'.length := (List.getElem?_eq_some_iff.1 hx).1
  obtain ⟨g, rfl, kc⟩ := HT2.out.at_ n x hx
  obtain ⟨k0, k1, k2, k3, k4, k5, k6, k7, k8, k9⟩ := dg10 kc
  obtain ⟨z0, z1, z2, z3, z4, z5, z6, z7, z8, z9⟩ := cel10 HC2.out
  have fz := HC2.out.free
  have q2 : w2.cell? ⟨q, 0, none⟩ = some (.slice (some ⟨g, 0, none⟩) gs'.length c) := HQ2.out.cell 0
  clear hx hf kc
  go_wp2_with fail
  have E2 := HC2.out.sd10 x.key x.f (.slice x.a x.ds.length x.cap)
  have OE := HF2.out.sd10 (b := r) (.inr (Nat.le_of_eq HR.out)) x.key x.f (.slice x.a x.ds.length x.cap)
  refine bodyPost_ret (results_dg rfl rfl rfl E2) rfl ?_
  rw [HN.out]
  exact ⟨x, rfl, rfl, OE⟩
end Go.Proofs.Ytpnnpdfmoldiiaa
