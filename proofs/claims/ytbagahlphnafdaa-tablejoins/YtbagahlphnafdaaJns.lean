/- Several texts in one. -/
import Derived.Test.YtbagahlphnafdaaLaw10
import Derived.Lib.SlBytesConst
import Derived.Test.YtbagahlphnafdaaOrdQ
/- awake. -/
namespace Go.Proofs.Ytbagahlphnafdaa
open Go.RowKit

theorem awt_row (w : World) (n : Int) (c : Nat) (hc : c < 256) (hn : 0 ≤ n ∧ n ≤ 7) : Row ((w.alloc (.cells #[.int .u8 (c : Int)] 5 (1, 2))).alloc (.cells #[.int .i64 n, .int .i64 1, .slice (some ⟨w.heap.size, 0, none⟩) 1 1, .bool false] 59)) (some ⟨w.heap.size + 1, 0, none⟩) 1 [⟨n, 1, some ⟨w.heap.size, 0, none⟩, 1, [c], false⟩] := by
  refine ⟨by simp, by omega, fun i v hi => ?_⟩
  cases i with
  | succ i => simp at hi
  | zero =>
    simp only [List.getElem?_cons_zero, Option.some.injEq] at hi
    subst hi
    have C : Cel (w.heap.size + 1) 59 #[.int .i64 n, .int .i64 1, .slice (some ⟨w.heap.size, 0, none⟩) 1 1, .bool false] ((w.alloc (.cells #[.int .u8 (c : Int)] 5 (1, 2))).alloc (.cells #[.int .i64 n, .int .i64 1, .slice (some ⟨w.heap.size, 0, none⟩) 1 1, .bool false] 59)) := by
      have := Cel.new (w.alloc (.cells #[.int .u8 (c : Int)] 5 (1, 2))) 59 #[.int .i64 n, .int .i64 1, .slice (some ⟨w.heap.size, 0, none⟩) 1 1, .bool false]
      rw [World.size_alloc] at this
      exact this
    refine ⟨w.heap.size + 1, 0, rfl, ⟨C.cell 0, C.cell 1, C.cell 2, C.cell 3⟩, ⟨?_, by simpa using hc, by show _ ≤ n; omega, by show n ≤ _; omega, by show _ ≤ (1 : Int); omega, by show (1 : Int) ≤ _; omega, by simp⟩⟩
    exact (src_mark w c (c : Int) rfl (1, 2)).off ((Off.refl (fun _ => False) _).alloc _) (fun _ _ _ h => h)
theorem awt_join (p b : Nat) (t : List E) (n : Int) (c : Nat) (x y : Int) (hc : c < 256) (hn : 0 ≤ n ∧ n ≤ 7) (w : World) (h : Tab p b t w) :
    Calls Try.prog 12 #[.pointer (some ⟨p, 0, none⟩), .agg #[.string ⟨#[107]⟩, .int .i64 x, .int .i64 y, .int .i64 0, .int .i64 0, .int .i64 0, .int .i64 0, .int .i64 0, .int .i64 0, .slice (some ⟨w.heap.size + 1, 0, none⟩) 1 1]] ((w.alloc (.cells #[.int .u8 (c : Int)] 5 (1, 2))).alloc (.cells #[.int .i64 n, .int .i64 1, .slice (some ⟨w.heap.size, 0, none⟩) 1 1, .bool false] 59)) fun e w' => ∃ (v : Value) (t' : List E), e = .returned v ∧ absE t' = (joinR (absE t) awK (aw8 x y) [⟨n, 1, [c], false⟩]).x ∧ Tab p b t' w' ∧ Off (fun c => c = b) w w' := by
  have O : Off (fun _ => False) w ((w.alloc (.cells #[.int .u8 (c : Int)] 5 (1, 2))).alloc (.cells #[.int .i64 n, .int .i64 1, .slice (some ⟨w.heap.size, 0, none⟩) 1 1, .bool false] 59)) := ((Off.refl _ w).alloc _).alloc _
  refine (tjoin_any p b t ⟨#[107]⟩ (aw8 x y) (some ⟨w.heap.size + 1, 0, none⟩) 1 [⟨n, 1, some ⟨w.heap.size, 0, none⟩, 1, [c], false⟩] _ (h.free O) (awt_row w n c hc hn)).mono ?_
  rintro e w' ⟨g, a', c', l', sm, er, t', rfl, hj, -, -, tb, o⟩
  exact ⟨_, t', rfl, (congrArg JR.x hj).symm, tb, (O.mono (fun _ _ h => h.elim)).trans o (fun _ _ h => h)⟩
set_option maxRecDepth 100000 in
set_option maxHeartbeats 2000000 in
theorem awake_any (w : World) : Calls Try.prog 10 #[] w fun e w' => e = .returned (.bool true) ∧ Off (fun _ => False) w w' := by
  have hcv := fun (w : World) (C : Array Value) (n c : Nat) => Lib.run_convert_bytes_const (P := Try.prog) w 51 5 C n c Try.underlying51 Try.underlying5
  go_enter Try.func10, Try.ntmps10
  go_wp2_with fail
  refine (tnew_any _).mono ?_
  rintro e w1 ⟨p, b, rfl, tb, hp, hb, o1⟩
  have HT1 : Hid _ := tb
  have HO1 : Hid _ := o1
  have HB : Hid _ := hb
  clear tb o1 hp hb
  go_wp2_with fail
  refine (awt_join p b [] 0 120 1 0 (by omega) (by omega) w1 HT1.out).mono ?_
  rintro e w2 ⟨v2, t1, rfl, hj1, tb1, o2⟩
  have HJ1 : Hid _ := hj1
  have HT2 : Hid _ := tb1
  have HO2 : Hid _ := HO1.out.trans o2 (fun i hi e => by have := HB.out; omega)
  clear hj1 tb1 o2
  go_wp2_with fail
  refine (awt_join p b t1 1 121 0 1 (by omega) (by omega) w2 HT2.out).mono ?_
  rintro e w3 ⟨v3, t2, rfl, hj2, tb2, o3⟩
  have hab : absE t2 = aw2.x := by
    rw [hj2, HJ1.out]
    rfl
  have hsome : (fndG E.key awK t2).isSome = true := by
    rw [fnd_isSome, hab]
    exact aw_some
  have htwo : (getE t2 awK).l.length = 2 := by
    rw [← cont_len]
    show (getE t2 awK).abs.l.length = 2
    rw [getE_abs, hab]
    exact aw_two
  have hone : ((t2.length : Int) == 1) = true := by
    rw [← absE_len, hab, aw_one]
    rfl
  have HT3 : Hid _ := tb2
  have HO3 : Hid _ := HO2.out.trans o3 (fun i hi e => by have := HB.out; omega)
  have HS : Hid _ := hsome
  have H2 : Hid _ := htwo
  have H1 : Hid _ := hone
  clear hj2 tb2 o3 hab hsome htwo hone
  go_wp2_with fail
  have hget := tget_any p b t2 awK (by show (1 : Nat) ≤ maxLen; unfold maxLen; omega) w3 HT3.out (by rw [H2.out]; omega)
  rw [HS.out] at hget
  refine hget.mono ?_
  clear hget
  rintro e w4 ⟨a', c', l', rfl, hc, -, -, o4⟩
  have hl2 : ((l'.length : Int) == 2) = true := by
    rw [← cont_len, hc, cont_len, H2.out]
    rfl
  have HL2 : Hid _ := hl2
  clear hc hl2
  generalize (getE t2 awK).f = gf
  go_upto_region 5 with fail
  have C2 := Cel.new w4 35 #[.int .i64 (gf 0), .int .i64 (gf 1), .int .i64 (gf 2), .int .i64 (gf 3), .int .i64 (gf 4), .int .i64 (gf 5), .int .i64 (gf 6), .int .i64 (gf 7), .slice a' l'.length c']
  have OA : Off (fun _ => False) w4 (w4.alloc (.cells #[.int .i64 (gf 0), .int .i64 (gf 1), .int .i64 (gf 2), .int .i64 (gf 3), .int .i64 (gf 4), .int .i64 (gf 5), .int .i64 (gf 6), .int .i64 (gf 7), .slice a' l'.length c'] 35)) := (Off.refl _ w4).alloc _
  generalize hq : w4.heap.size = q2 at C2 ⊢
  generalize hv : w4.alloc (.cells #[.int .i64 (gf 0), .int .i64 (gf 1), .int .i64 (gf 2), .int .i64 (gf 3), .int .i64 (gf 4), .int .i64 (gf 5), .int .i64 (gf 6), .int .i64 (gf 7), .slice a' l'.length c'] 35) = V2 at C2 OA ⊢
  clear hq hv
  have c8 : V2.cell? ⟨q2, 8, none⟩ = some (.slice a' l'.length c') := C2.cell 8
  have HT5 : Hid _ := HT3.out.free (o4.trans OA (fun _ _ h => h))
  have HO5 : Hid _ := HO3.out.trans (o4.trans OA (fun _ _ h => h)) (fun _ _ h => h)
  have k2 := HL2.out
  clear C2 OA o4
  go_wp2_with fail
  refine (tlen_any p b t2 _ HT5.out).mono ?_
  rintro e w6 ⟨rfl, hw6⟩
  rw [hw6]
  clear hw6 w6
  have k1 := H1.out
  go_wp2_with fail
  go_ret
  exact ⟨rfl, HO5.out⟩
end Go.Proofs.Ytbagahlphnafdaa

/- Entries joined one behind the other, as data. -/
namespace Go.Proofs.Ytbagahlphnafdaa
open Go.RowKit

/-- One more entry. -/
def jo (X : List K) (e : E) : List K := (joinR X e.key e.f (cont e.l)).x
def joins (X : List K) (es : List E) : List K := es.foldl jo X
theorem joins_nil (X : List K) (es : List E) : joins X (es.take 0) = X := rfl
theorem joins_step (X : List K) {es : List E} {n : Nat} {x : E} (hx : es[n]? = some x) : joins X (es.take (n + 1)) = jo (joins X (es.take n)) x := by
  unfold joins
  rw [List.take_add_one, hx]
  show (es.take n ++ [x]).foldl jo X = _
  rw [List.foldl_append]
  rfl
theorem joins_all (X : List K) (es : List E) : joins X (es.take es.length) = joins X es := by rw [List.take_length]
/-- What stands in a table may be. -/
structure OkT (X : List K) : Prop where
  may : ∀ x ∈ X, MayP x.f x.l
  key : ∀ x ∈ X, keyB x.key = true
theorem okT_nil : OkT [] := ⟨fun x hx => by simp at hx, fun x hx => by simp at hx⟩
theorem okT_put {X : List K} (h : OkT X) {x : K} (h1 : MayP x.f x.l) (h2 : keyB x.key = true) : OkT (putG K.key x X) :=
  ⟨fun y hy => by
    rcases (mem_putG K.key).1 hy with rfl | ⟨hy, -⟩
    · exact h1
    · exact h.may y hy, fun y hy => by
    rcases (mem_putG K.key).1 hy with rfl | ⟨hy, -⟩
    · exact h2
    · exact h.key y hy⟩
/-- The ways of Join. -/
theorem joinR_ways (X : List K) (k : ByteArray) (f : Nat → Int) (l : List A) :
    ((keyB k && mayS f l) = false ∧ joinR X k f l = ⟨X, zer, [], false, 1⟩) ∨
    (keyB k = true ∧ MayP f l ∧ fndG K.key k X = none ∧ 256 ≤ X.length ∧ joinR X k f l = ⟨X, zer, [], false, 11⟩) ∨
    (keyB k = true ∧ MayP f l ∧ fndG K.key k X = none ∧ ¬ 256 ≤ X.length ∧ joinR X k f l = ⟨putG K.key ⟨k, joinV zer f [] l, joinL zer f [] l⟩ X, joinV zer f [] l, joinL zer f [] l, false, 0⟩) ∨
    ∃ u, keyB k = true ∧ MayP f l ∧ fndG K.key k X = some u ∧ joinR X k f l = ⟨putG K.key ⟨k, joinV u.f f u.l l, joinL u.f f u.l l⟩ X, joinV u.f f u.l l, joinL u.f f u.l l, sameS u.f (joinV u.f f u.l l) u.l (joinL u.f f u.l l), 0⟩ := by
  cases hm : (keyB k && mayS f l)
  · exact .inl ⟨rfl, joinR_arg hm⟩
  · right
    have hk : keyB k = true ∧ MayP f l := by
      rw [Bool.and_eq_true] at hm
      exact ⟨hm.1, may_iff.1 hm.2⟩
    cases hf : fndG K.key k X with
    | none =>
      by_cases hn : 256 ≤ X.length
      · exact .inl ⟨hk.1, hk.2, rfl, hn, joinR_full hm hf hn⟩
      · exact .inr (.inl ⟨hk.1, hk.2, rfl, hn, joinR_new hm hf hn⟩)
    | some u => exact .inr (.inr ⟨u, hk.1, hk.2, rfl, joinR_old hm hf⟩)
theorem okT_join {X : List K} (h : OkT X) (k : ByteArray) (f : Nat → Int) (l : List A) : OkT (joinR X k f l).x := by
  rcases joinR_ways X k f l with ⟨-, e⟩ | ⟨-, -, -, -, e⟩ | ⟨hk, hm, -, -, e⟩ | ⟨u, hk, hm, hf, e⟩
  · rw [e]; exact h
  · rw [e]; exact h
  · rw [e]; exact okT_put h (join_ok may_zer hm) hk
  · rw [e]; exact okT_put h (join_ok (h.may u (fnd_mem K.key hf).1) hm) hk
theorem okT_joins {X : List K} (h : OkT X) : ∀ (es : List E), OkT (joins X es)
  | [] => h
  | e :: es => okT_joins (okT_join h e.key e.f (cont e.l)) es
theorem okT_few {t : List E} {X : List K} (h : OkT X) (e : absE t = X) : ∀ x ∈ t, x.l.length ≤ 1000 := by
  intro x hx
  have := (h.may x.abs (e ▸ List.mem_map.2 ⟨x, hx, rfl⟩)).few
  have e2 : x.abs.l.length = x.l.length := cont_len x.l
  omega
theorem okT_get {t : List E} {X : List K} (h : OkT X) (e : absE t = X) (k : ByteArray) : (getE t k).l.length ≤ 1000 := by
  unfold getE
  cases hf : fndG E.key k t with
  | none => show ([] : List V).length ≤ 1000; simp
  | some x => exact okT_few h e x (fnd_mem E.key hf).1
theorem reap_ok {f : Nat → Int} {l : List A} (h : MayP f l) : MayP (reapV f l) (reapL f l) := by
  have hm := may_yes h
  unfold reapV reapL
  rw [if_pos hm]
  split
  · exact h
  · exact ⟨h.seen, by simp, by simp, by simp⟩
theorem okT_reap {X : List K} (h : OkT X) (k : ByteArray) : OkT (reapT X k) := by
  unfold reapT
  cases hf : fndG K.key k X with
  | none => exact h
  | some u =>
    obtain ⟨hm, hk⟩ := fnd_mem K.key hf
    show OkT (if _ then _ else _)
    split
    · exact h
    · exact okT_put h (reap_ok (h.may u hm)) (hk ▸ h.key u hm)
end Go.Proofs.Ytbagahlphnafdaa
