/- Items of several texts. -/
import Derived.Test.YtpnnpdfmoldiiaaQSiz
import Derived.Test.YtpnnpdfmoldiiaaQSnd
import Derived.Test.YtpnnpdfmoldiiaaQGlk
namespace Go.Proofs.Ytpnnpdfmoldiiaa
set_option maxRecDepth 100000
open Go.RowKit
theorem putS_two {m M : Nat} {st : Option (List Nat)} {x : List Nat} (h1 : (st.getD []).length + x.length ≤ m) (h2 : m ≤ M) : putS m st x = putS M st x := by
 cases st with
 | none => rfl
 | some bs =>
  simp only [Option.getD_some] at h1
  simp only [putS]
  rw [if_pos h1, if_pos (by omega)]
theorem wrV_two {m M : Nat} (hM : m ≤ M) (st : Option (List Nat)) (f : Nat → Int) (hr : ∀ j, j < 8 → -9223372036854775808 ≤ f j ∧ f j ≤ 9223372036854775807) : ∀ n, n ≤ 8 → (st.getD []).length + 10 * n ≤ m → wrV m st f n = wrV M st f n
 | 0, _, _ => rfl
 | n + 1, h, hl => by
  have h1 := wrV_len M st f hr n (by omega)
  have h3 := numB_zig (hr n (by omega)).1 (hr n (by omega)).2
  simp only [wrV]
  rw [wrV_two hM st f hr n (by omega) (by omega)]
  exact putS_two (by omega) hM
theorem wrVal_two {m M : Nat} (hM : m ≤ M) (st : Option (List Nat)) (x : A) (a1 : -9223372036854775808 ≤ x.num) (a2 : x.num ≤ 9223372036854775807) (a3 : x.data.length < 18446744073709551616) (hl : (st.getD []).length + 31 + x.data.length ≤ m) : wrVal m st x = wrVal M st x ∧ ((wrVal M st x).getD []).length ≤ (st.getD []).length + 31 + x.data.length := by
 have b1 := putS_len M st (numB (u64N x.node))
 have b2 := putS_len M (putS M st (numB (u64N x.node))) (numB (zig x.num))
 have b3 := putS_len M (putS M (putS M st (numB (u64N x.node))) (numB (zig x.num))) [if x.dead then 1 else 0]
 have b4 := putS_len M (putS M (putS M (putS M st (numB (u64N x.node))) (numB (zig x.num))) [if x.dead then 1 else 0]) (numB x.data.length ++ x.data)
 have c1 := numB_ten (u64N_lt x.node)
 have c2 := numB_zig a1 a2
 have c3 := numB_ten a3
 have c4 : ([if x.dead then 1 else 0] : List Nat).length = 1 := rfl
 have c5 : (numB x.data.length ++ x.data).length = (numB x.data.length).length + x.data.length := List.length_append
 unfold wrVal
 refine ⟨?_, by omega⟩
 rw [putS_two (m := m) (M := M) (st := st) (by omega) hM, putS_two (m := m) (M := M) (st := putS M st (numB (u64N x.node))) (by omega) hM, putS_two (m := m) (M := M) (st := putS M (putS M st (numB (u64N x.node))) (numB (zig x.num))) (by omega) hM, putS_two (m := m) (M := M) (st := putS M (putS M (putS M st (numB (u64N x.node))) (numB (zig x.num))) [if x.dead then 1 else 0]) (by omega) hM]
theorem wrL_two {m M : Nat} (hM : m ≤ M) : ∀ (st : Option (List Nat)) (l : List A), (∀ x ∈ l, (-9223372036854775808 ≤ x.num ∧ x.num ≤ 9223372036854775807) ∧ x.data.length < 18446744073709551616) → (st.getD []).length + vsum l ≤ m → wrL m st l = wrL M st l
 | _, [], _, _ => rfl
 | st, x :: l, h, hl => by
  obtain ⟨⟨a1, a2⟩, a3⟩ := h x (by simp)
  have e2 : vsum (x :: l) = 31 + x.data.length + vsum l := by simp [vsum]
  obtain ⟨e, hn⟩ := wrVal_two hM st x a1 a2 a3 (by omega)
  show wrL m (wrVal m st x) l = wrL M (wrVal M st x) l
  rw [e]
  exact wrL_two hM _ l (fun y hy => h y (by simp [hy])) (by omega)
theorem wrE_two (key : ByteArray) (f : Nat → Int) (hr : ∀ j, j < 8 → -9223372036854775808 ≤ f j ∧ f j ≤ 9223372036854775807) (l : List V) (hv : ∀ v ∈ l, (-9223372036854775808 ≤ v.num ∧ v.num ≤ 9223372036854775807) ∧ v.data.length ≤ 140737488351232) (hl : l.length < 18446744073709551616) (hB : 120 + key.size + vsum (cont l) ≤ 1073741824) : wrE 1073741824 (some []) key f (cont l) = wrE 9223372036854775807 (some []) key f (cont l) := by
 have hM : 1073741824 ≤ 9223372036854775807 := by omega
 have h5 : (keyL key).length = key.size := keyL_len key
 have h6 := numB_ten (n := (keyL key).length) (by omega)
 have h7 := numB_ten (n := (cont l).length) (by rw [cont_len]; exact hl)
 have h8 : ((some ([] : List Nat)).getD []).length = 0 := rfl
 have h9 : (numB (keyL key).length ++ keyL key).length = (numB (keyL key).length).length + (keyL key).length := List.length_append
 have b1 := putS_len 9223372036854775807 (some []) (numB (keyL key).length ++ keyL key)
 have b2 := wrV_len 9223372036854775807 (putS 9223372036854775807 (some []) (numB (keyL key).length ++ keyL key)) f hr 8 (by omega)
 have b3 := putS_len 9223372036854775807 (wrV 9223372036854775807 (putS 9223372036854775807 (some []) (numB (keyL key).length ++ keyL key)) f 8) (numB (cont l).length)
 unfold wrE wrS
 rw [putS_two (m := 1073741824) (M := 9223372036854775807) (st := some []) (by omega) hM, wrV_two (m := 1073741824) (M := 9223372036854775807) hM _ f hr 8 (by omega) (by omega), putS_two (m := 1073741824) (M := 9223372036854775807) (x := numB (cont l).length) (by omega) hM]
 exact wrL_two hM _ _ (fun y hy => by
  simp only [cont, List.mem_map] at hy
  obtain ⟨v, hv', rfl⟩ := hy
  have := hv v hv'
  exact ⟨this.1, by show v.data.length < _; omega⟩) (by omega)
theorem putS_is {m : Nat} {st : Option (List Nat)} {x : List Nat} (h : st.isSome = true) (hl : (st.getD []).length + x.length ≤ m) : (putS m st x).isSome = true := by
 cases st with
 | none => cases h
 | some bs =>
  simp only [Option.getD_some] at hl
  simp only [putS]
  rw [if_pos hl]
  rfl
theorem wrV_is {m : Nat} {st : Option (List Nat)} (f : Nat → Int) (hr : ∀ j, j < 8 → -9223372036854775808 ≤ f j ∧ f j ≤ 9223372036854775807) (hs : st.isSome = true) : ∀ n, n ≤ 8 → (st.getD []).length + 10 * n ≤ m → (wrV m st f n).isSome = true
 | 0, _, _ => hs
 | n + 1, h, hl => by
  have h1 := wrV_len m st f hr n (by omega)
  have h3 := numB_zig (hr n (by omega)).1 (hr n (by omega)).2
  simp only [wrV]
  exact putS_is (wrV_is f hr hs n (by omega) (by omega)) (by omega)
theorem wrL_is {m : Nat} : ∀ (st : Option (List Nat)) (l : List A), st.isSome = true → (∀ x ∈ l, (-9223372036854775808 ≤ x.num ∧ x.num ≤ 9223372036854775807) ∧ x.data.length < 18446744073709551616) → (st.getD []).length + vsum l ≤ m → (wrL m st l).isSome = true
 | _, [], hs, _, _ => hs
 | st, x :: l, hs, h, hl => by
  obtain ⟨⟨a1, a2⟩, a3⟩ := h x (by simp)
  have e2 : vsum (x :: l) = 31 + x.data.length + vsum l := by simp [vsum]
  obtain ⟨-, hn⟩ := wrVal_two (Nat.le_refl m) st x a1 a2 a3 (by omega)
  show (wrL m (wrVal m st x) l).isSome = true
  refine wrL_is _ l ?_ (fun y hy => h y (by simp [hy])) (by omega)
  have b1 := putS_len m st (numB (u64N x.node))
  have b2 := putS_len m (putS m st (numB (u64N x.node))) (numB (zig x.num))
  have b3 := putS_len m (putS m (putS m st (numB (u64N x.node))) (numB (zig x.num))) [if x.dead then 1 else 0]
  have c1 := numB_ten (u64N_lt x.node)
  have c2 := numB_zig a1 a2
  have c3 := numB_ten a3
  have c4 : ([if x.dead then 1 else 0] : List Nat).length = 1 := rfl
  have c5 : (numB x.data.length ++ x.data).length = (numB x.data.length).length + x.data.length := List.length_append
  unfold wrVal
  exact putS_is (putS_is (putS_is (putS_is hs (by omega)) (by omega)) (by omega)) (by omega)
theorem wrE_is (key : ByteArray) (f : Nat → Int) (hr : ∀ j, j < 8 → -9223372036854775808 ≤ f j ∧ f j ≤ 9223372036854775807) (l : List V) (hv : ∀ v ∈ l, (-9223372036854775808 ≤ v.num ∧ v.num ≤ 9223372036854775807) ∧ v.data.length ≤ 140737488351232) (hl : l.length < 18446744073709551616) {m : Nat} (hB : 120 + key.size + vsum (cont l) ≤ m) (hk : key.size ≤ 140737488351232) : (wrE m (some []) key f (cont l)).isSome = true := by
 have h5 : (keyL key).length = key.size := keyL_len key
 have h6 := numB_ten (n := (keyL key).length) (by omega)
 have h7 := numB_ten (n := (cont l).length) (by rw [cont_len]; exact hl)
 have h8 : ((some ([] : List Nat)).getD []).length = 0 := rfl
 have h9 : (numB (keyL key).length ++ keyL key).length = (numB (keyL key).length).length + (keyL key).length := List.length_append
 have b1 := putS_len m (some []) (numB (keyL key).length ++ keyL key)
 have b2 := wrV_len m (putS m (some []) (numB (keyL key).length ++ keyL key)) f hr 8 (by omega)
 have b3 := putS_len m (wrV m (putS m (some []) (numB (keyL key).length ++ keyL key)) f 8) (numB (cont l).length)
 unfold wrE wrS
 refine wrL_is _ _ (putS_is (wrV_is f hr (putS_is rfl (by omega)) 8 (by omega) (by omega)) (by omega)) (fun y hy => ?_) (by omega)
 simp only [cont, List.mem_map] at hy
 obtain ⟨v, hv', rfl⟩ := hy
 have := hv v hv'
 exact ⟨this.1, by show v.data.length < _; omega⟩
set_option maxHeartbeats 1000000 in
theorem gsize_any (key : ByteArray) (hks : key.size ≤ 140737488351232) (f : Nat → Int) (hr : ∀ j, j < 8 → -9223372036854775808 ≤ f j ∧ f j ≤ 9223372036854775807) (a : Option Addr) (ca : Nat) (l : List V) (w : World) (hrow : Row w a ca l) (hB : 120 + key.size + vsum (cont l) ≤ 1073741824) :
  Calls Try.prog 19 #[.agg #[.string key, .int .i64 (f 0), .int .i64 (f 1), .int .i64 (f 2), .int .i64 (f 3), .int .i64 (f 4), .int .i64 (f 5), .int .i64 (f 6), .int .i64 (f 7), .slice a l.length ca]] w fun e w' => e = .returned (.int .i64 (sizE key f (cont l) : Nat)) ∧ Off (fun _ => False) w w' := by
 have HTW : Hid _ := wrE_two key f hr l (fun v hv => ⟨⟨(hrow.ok v hv).m0, (hrow.ok v hv).m1⟩, (hrow.ok v hv).len⟩) (by have h1 := hrow.len; have h2 := hrow.bound; omega) hB
 have HIS : Hid ((wrE 9223372036854775807 (some []) key f (cont l)).isSome = true) := wrE_is key f hr l (fun v hv => ⟨⟨(hrow.ok v hv).m0, (hrow.ok v hv).m1⟩, (hrow.ok v hv).len⟩) (by have h1 := hrow.len; have h2 := hrow.bound; omega) (by omega) hks
 have C := (Cel.new w 40 #[.string key, .int .i64 (f 0), .int .i64 (f 1), .int .i64 (f 2), .int .i64 (f 3), .int .i64 (f 4), .int .i64 (f 5), .int .i64 (f 6), .int .i64 (f 7), .slice a l.length ca]).alloc (.cells #[.slice none 0 0, .int .i64 1073741824, .bool false] 51)
 have O : Off (fun _ => False) w ((w.alloc (.cells #[.string key, .int .i64 (f 0), .int .i64 (f 1), .int .i64 (f 2), .int .i64 (f 3), .int .i64 (f 4), .int .i64 (f 5), .int .i64 (f 6), .int .i64 (f 7), .slice a l.length ca] 40)).alloc (.cells #[.slice none 0 0, .int .i64 1073741824, .bool false] 51)) := ((Off.refl _ w).alloc _).alloc _
 have FW0 : FW (fun c => c = w.heap.size + 1) (w.heap.size + 1) 1073741824 (some []) ((w.alloc (.cells #[.string key, .int .i64 (f 0), .int .i64 (f 1), .int .i64 (f 2), .int .i64 (f 3), .int .i64 (f 4), .int .i64 (f 5), .int .i64 (f 6), .int .i64 (f 7), .slice a l.length ca] 40)).alloc (.cells #[.slice none 0 0, .int .i64 1073741824, .bool false] 51)) := ⟨rfl, fun c h => by simp [h], by decide, .inr ⟨[], none, 0, rfl, Cel.new1 w _ _ _, OwnR.nil _, fun k hk => by simp [blk] at hk⟩⟩
 have HRW : Hid (∀ w', Off (fun c => c = w.heap.size + 1) ((w.alloc (.cells #[.string key, .int .i64 (f 0), .int .i64 (f 1), .int .i64 (f 2), .int .i64 (f 3), .int .i64 (f 4), .int .i64 (f 5), .int .i64 (f 6), .int .i64 (f 7), .slice a l.length ca] 40)).alloc (.cells #[.slice none 0 0, .int .i64 1073741824, .bool false] 51)) w' → Row w' a ca l) := fun w' o' => hrow.off (O.trans o' (fun k hk e => by have e : k = w.heap.size + 1 := e; omega))
 have HOW : Hid (∀ w', Off (fun c => c = w.heap.size + 1) ((w.alloc (.cells #[.string key, .int .i64 (f 0), .int .i64 (f 1), .int .i64 (f 2), .int .i64 (f 3), .int .i64 (f 4), .int .i64 (f 5), .int .i64 (f 6), .int .i64 (f 7), .slice a l.length ca] 40)).alloc (.cells #[.slice none 0 0, .int .i64 1073741824, .bool false] 51)) w' → Off (fun _ => False) w w') := fun w' o' => O.trans o' (fun k hk e => by have e : k = w.heap.size + 1 := e; exact absurd hk (by omega))
 clear hrow O
 go_enter Try.func19, Try.ntmps19
 go_upto_region 2 with fail
 generalize ((w.alloc (.cells #[.string key, .int .i64 (f 0), .int .i64 (f 1), .int .i64 (f 2), .int .i64 (f 3), .int .i64 (f 4), .int .i64 (f 5), .int .i64 (f 6), .int .i64 (f 7), .slice a l.length ca] 40)).alloc (.cells #[.slice none 0 0, .int .i64 1073741824, .bool false] 51)) = W at *
 generalize w.heap.size + 1 = p at *
 generalize w.heap.size = q at C ⊢
 obtain ⟨x0, x1, x2, x3, x4, x5, x6, x7, x8, x9⟩ := cel10 C
 have HWE : Hid _ := gwriteEntry_any FW0 (by omega) (by simp) key hks f hr a ca l HRW.out
 clear C FW0 HRW
 go_wp2_with fail
 refine Calls.mono HWE.out ?_
 rintro e w2 ⟨rfl, D2, F2, o2, -⟩
 have HO2 : Hid _ := HOW.out w2 o2
 rw [HTW.out] at F2
 have HSZ : Hid (((wrE 9223372036854775807 (some []) key f (cont l)).getD []).length = sizE key f (cont l)) := rfl
 obtain ⟨bs, tad, cap, hbs, cw⟩ : ∃ bs tad cap, wrE 9223372036854775807 (some []) key f (cont l) = some bs ∧ Cel p 51 #[.slice tad bs.length cap, .int .i64 (1073741824 : Int), .bool false] w2 := by
  rcases F2.is with ⟨e, -⟩ | ⟨bs, tad, cap, e, h2, -⟩
  ·have h := HIS.out
   rw [e] at h
   cases h
  ·exact ⟨bs, tad, cap, e, h2⟩
 have HSB : Hid (bs.length = sizE key f (cont l)) := by show _ = _; rw [← HSZ.out, hbs]; rfl
 have p0 : w2.cell? ⟨p, 0, none⟩ = some (.slice tad bs.length cap) := cw.cell 0
 clear F2 o2 hbs cw HSZ HIS HTW HOW HWE x0 x1 x2 x3 x4 x5 x6 x7 x8 x9
 go_wp2_with fail
 go_ret
 exact ⟨by rw [HSB.out]; rfl, HO2.out⟩
end Go.Proofs.Ytpnnpdfmoldiiaa

namespace Go.Proofs.Ytpnnpdfmoldiiaa
set_option maxRecDepth 100000
open Go.RowKit
theorem putS_grow {m : Nat} {st : Option (List Nat)} {x : List Nat} (h : (putS m st x).isSome = true) : st.isSome = true ∧ (st.getD []).length + x.length ≤ ((putS m st x).getD []).length := by
 cases st with
 | none => cases h
 | some bs =>
  simp only [putS] at h ⊢
  split at h
  ·rename_i hc
   rw [if_pos hc]
   simp
  ·cases h
theorem wrV_grow {m : Nat} {st : Option (List Nat)} {f : Nat → Int} : ∀ {n : Nat}, (wrV m st f n).isSome = true → st.isSome = true ∧ (st.getD []).length ≤ ((wrV m st f n).getD []).length
 | 0, h => ⟨h, Nat.le_refl _⟩
 | n + 1, h => by
  simp only [wrV] at h ⊢
  obtain ⟨h1, h2⟩ := putS_grow h
  obtain ⟨h3, h4⟩ := wrV_grow h1
  exact ⟨h3, by omega⟩
theorem wrL_grow {m : Nat} : ∀ {st : Option (List Nat)} {l : List A}, (wrL m st l).isSome = true → st.isSome = true ∧ (st.getD []).length ≤ ((wrL m st l).getD []).length
 | _, [], h => ⟨h, Nat.le_refl _⟩
 | st, x :: l, h => by
  obtain ⟨h1, h2⟩ := wrL_grow (st := wrVal m st x) (l := l) h
  have e : wrL m st (x :: l) = wrL m (wrVal m st x) l := rfl
  rw [e]
  unfold wrVal at h1
  obtain ⟨a1, b1⟩ := putS_grow h1
  obtain ⟨a2, b2⟩ := putS_grow a1
  obtain ⟨a3, b3⟩ := putS_grow a2
  obtain ⟨a4, b4⟩ := putS_grow a3
  have e3 : wrVal m st x = putS m (putS m (putS m (putS m st (numB (u64N x.node))) (numB (zig x.num))) [if x.dead then 1 else 0]) (numB x.data.length ++ x.data) := rfl
  rw [← e3] at b1
  exact ⟨a4, by omega⟩
theorem sizE_pos (x : E) (hO : OkN x) (hv : ∀ v ∈ x.l, (-9223372036854775808 ≤ v.num ∧ v.num ≤ 9223372036854775807) ∧ v.data.length ≤ 140737488351232) : 0 < sizE x.key x.f (cont x.l) := by
 have h := wrE_is x.key x.f hO.rng x.l hv (by have := hO.few; omega) (m := 9223372036854775807) (by have := hO.sum; omega) hO.key
 unfold sizE
 unfold wrE wrS at h ⊢
 obtain ⟨h1, h2⟩ := wrL_grow h
 obtain ⟨h3, h4⟩ := putS_grow h1
 obtain ⟨h5, h6⟩ := wrV_grow h3
 obtain ⟨-, h8⟩ := putS_grow h5
 have h9 := numB_pos (keyL x.key).length
 rw [List.length_append] at h8
 omega
theorem acc_le {acc n M : Nat} (h : acc ≤ n * M) : acc ≤ (n + 1) * M := by
 rw [Nat.add_mul]
 exact Nat.le_trans h (Nat.le_add_right _ _)
theorem fst_step {gs : List G} {key : ByteArray} {m : Nat} {g : G} (h : gs[m]? = some g) : fstK (gs.drop m) key = if g.key = key then some g else fstK (gs.drop (m + 1)) key := by
 obtain ⟨hl, e⟩ := List.getElem?_eq_some_iff.1 h
 rw [List.drop_eq_getElem_cons hl, e]
 unfold fstK
 rw [List.find?_cons]
 by_cases hk : g.key = key
 ·rw [if_pos hk, decide_eq_true hk]
 ·rw [if_neg hk, decide_eq_false hk]
set_option maxHeartbeats 4000000 in
theorem gsend_any (a t : Option Addr) (ca c : Nat) (es : List E) (gs : List G) (most : Int) (hm : -9223372036854775808 ≤ most ∧ most ≤ 9223372036854775807) (w : World) (hE : Ens w a ca es) (hG : Dgs w t c gs) (hgl : gs.length ≤ 1000000) (hel : es.length ≤ 1000) (hok : ∀ e ∈ es, OkN e) (hsm : ∀ e ∈ es, 120 + e.key.size + vsum (cont e.l) ≤ 1073741824) :
  Calls Try.prog 24 #[.slice a es.length ca, .slice t gs.length c, .int .i64 most] w fun e w' => ∃ (tq : Option Addr) (co : Nat) (os : List E), e = .returned (.slice tq os.length co) ∧ absE os = absE (sndF gs es (max most 0) false) ∧ OwnG 40 10 ecs w' tq co os ∧ (∀ e ∈ os, e ∈ es) ∧ (∀ x, blk tq = some x → w.heap.size ≤ x) ∧ Off (fun _ => False) w w' := by
 have HES : Hid _ := hE
 have HGS : Hid _ := hG
 have HOKS : Hid (∀ e ∈ es, OkN e) := hok
 have HSMS : Hid (∀ e ∈ es, 120 + e.key.size + vsum (cont e.l) ≤ 1073741824) := hsm
 have hnot := not_any
 obtain ⟨R0, hRR⟩ : ∃ R0, max most 0 = R0 := ⟨_, rfl⟩
 have HRR : Hid (max most 0 = R0) := hRR
 clear hE hG hok hsm hRR
 go_enter Try.func24, Try.ntmps24
 go_wp2_with fail
 go_loopw [7, 8, 16] (fun y7 y8 z wr => ∃ (n acc : Nat) (tq : Option Addr) (co : Nat) (os : List E), y7 = .slice tq os.length co ∧ y8 = .int .i64 (acc : Int) ∧ z = .int .i64 (n : Int) ∧ n ≤ es.length ∧ acc ≤ n * 1073741824 ∧ absE os ++ absE (sndF gs (es.drop n) (R0 - (acc : Int)) (!os.isEmpty)) = absE (sndF gs es R0 false) ∧ os.length ≤ n ∧ OwnG 40 10 ecs wr tq co os ∧ (∀ e ∈ os, e ∈ es) ∧ (∀ x, blk tq = some x → w.heap.size ≤ x) ∧ Off (fun _ => False) w wr) (fun _ _ z _ => (es.length - intOf z).toNat)
 case atStart =>
  exact ⟨0, 0, none, 0, [], rfl, rfl, rfl, by omega, by omega, by simp [absE], by simp, OwnG.nil _ _ _ _, fun e he => by simp at he, fun x hx => by simp [blk] at hx, Off.refl _ w⟩
 case round =>
  obtain ⟨n, acc, tq, co, os, rfl, rfl, rfl, hn, hac, hdat, hol, hog, hrs, hnw, O⟩ := hrel
  have HEL : Hid (os.length ≤ n) := hol
  have HDA : Hid _ := hdat
  have HOG : Hid _ := hog
  have HRS : Hid (∀ e ∈ os, e ∈ es) := hrs
  have HNW : Hid _ := hnw
  have HO : Hid _ := O
  clear hol hdat hog hrs hnw O
  by_cases hlt : n < es.length
  ·have e1 : decide ((n : Int) < (es.length : Int)) = true := decide_eq_true (by omega)
   have e2 : decide (n < es.length) = true := decide_eq_true hlt
   obtain ⟨x, hx⟩ : ∃ x, es[n]? = some x := ⟨_, List.getElem?_eq_getElem hlt⟩
   obtain ⟨bx, ox, rfl, kx, rx⟩ := (HES.out.off HO.out).at_ n x hx
   obtain ⟨k0, k1, k2, k3, k4, k5, k6, k7, k8, k9⟩ := ent10 kx
   have hix := idx_ents hlt
   have HX : Hid _ := hx
   have HOK : Hid (OkN x) := HOKS.out x (List.mem_of_getElem? hx)
   have HSM : Hid (120 + x.key.size + vsum (cont x.l) ≤ 1073741824) := HSMS.out x (List.mem_of_getElem? hx)
   have HPOS : Hid (0 < sizE x.key x.f (cont x.l)) := sizE_pos x HOK.out (fun v hv => ⟨⟨(rx.ok v hv).m0, (rx.ok v hv).m1⟩, (rx.ok v hv).len⟩)
   have CE := Cel.new wr 40 #[.string x.key, .int .i64 (x.f 0), .int .i64 (x.f 1), .int .i64 (x.f 2), .int .i64 (x.f 3), .int .i64 (x.f 4), .int .i64 (x.f 5), .int .i64 (x.f 6), .int .i64 (x.f 7), .slice x.a x.l.length x.cap]
   have OV : Off (fun _ => False) wr (wr.alloc (.cells #[.string x.key, .int .i64 (x.f 0), .int .i64 (x.f 1), .int .i64 (x.f 2), .int .i64 (x.f 3), .int .i64 (x.f 4), .int .i64 (x.f 5), .int .i64 (x.f 6), .int .i64 (x.f 7), .slice x.a x.l.length x.cap] 40)) := (Off.refl _ wr).alloc _
   clear kx hx
   go_upto_region 6 with fail
   generalize hqe : wr.heap.size = qe at CE ⊢
   generalize hve : wr.alloc (.cells #[.string x.key, .int .i64 (x.f 0), .int .i64 (x.f 1), .int .i64 (x.f 2), .int .i64 (x.f 3), .int .i64 (x.f 4), .int .i64 (x.f 5), .int .i64 (x.f 6), .int .i64 (x.f 7), .slice x.a x.l.length x.cap] 40) = V1 at CE OV ⊢
   clear hqe hve k0 k1 k2 k3 k4 k5 k6 k7 k8 k9 hix
   have HCE1 : Hid _ := CE
   have HRX1 : Hid _ := rx.off OV
   have HOG1 : Hid _ := HOG.out.off OV (fun _ _ _ h => h)
   have HO1 : Hid _ := HO.out.trans OV (fun _ _ h => h)
   have HG1 : Hid _ := HGS.out.off HO1.out
   clear CE OV rx HOG HO
   go_wp2_with fail
   go_loopw [11, 22] (fun y z wr2 => ∃ m : Nat, y = .bool true ∧ z = .int .i64 (m : Int) ∧ m ≤ gs.length ∧ fstK gs x.key = fstK (gs.drop m) x.key ∧ Off (fun _ => False) V1 wr2) (fun _ z _ => (gs.length - intOf z).toNat)
   case atStart => exact ⟨0, rfl, rfl, by omega, rfl, Off.refl _ _⟩
   case round =>
    obtain ⟨m, rfl, rfl, hmn, hfs, P⟩ := hrel
    have HFS : Hid _ := hfs
    have HP : Hid _ := P
    clear hfs P
    by_cases hmt : m < gs.length
    ·have d1 : decide ((m : Int) < (gs.length : Int)) = true := decide_eq_true (by omega)
     have d2 : decide (m < gs.length) = true := decide_eq_true hmt
     obtain ⟨g, hg⟩ : ∃ g, gs[m]? = some g := ⟨_, List.getElem?_eq_getElem hmt⟩
     obtain ⟨bg, og, rfl, kg, rg⟩ := (HG1.out.off HP.out).at_ m g hg
     obtain ⟨k0, k1, k2, k3, k4, k5, k6, k7, k8, k9⟩ := dg10 kg
     have hix := idx_dgs hmt
     have HGM : Hid _ := hg
     have CG := Cel.new wr 27 #[.string g.key, .int .i64 (g.f 0), .int .i64 (g.f 1), .int .i64 (g.f 2), .int .i64 (g.f 3), .int .i64 (g.f 4), .int .i64 (g.f 5), .int .i64 (g.f 6), .int .i64 (g.f 7), .slice g.a g.ds.length g.cap]
     have OG : Off (fun _ => False) wr (wr.alloc (.cells #[.string g.key, .int .i64 (g.f 0), .int .i64 (g.f 1), .int .i64 (g.f 2), .int .i64 (g.f 3), .int .i64 (g.f 4), .int .i64 (g.f 5), .int .i64 (g.f 6), .int .i64 (g.f 7), .slice g.a g.ds.length g.cap] 27)) := (Off.refl _ wr).alloc _
     clear kg hg
     go_upto_region 10 with fail
     generalize hqg : wr.heap.size = qg at CG ⊢
     generalize hvg : wr.alloc (.cells #[.string g.key, .int .i64 (g.f 0), .int .i64 (g.f 1), .int .i64 (g.f 2), .int .i64 (g.f 3), .int .i64 (g.f 4), .int .i64 (g.f 5), .int .i64 (g.f 6), .int .i64 (g.f 7), .slice g.a g.ds.length g.cap] 27) = V2 at CG OG ⊢
     clear hqg hvg k0 k1 k2 k3 k4 k5 k6 k7 k8 k9 hix
     have HCG : Hid _ := CG
     have HP2 : Hid _ := HP.out.trans OG (fun _ _ h => h)
     have HRG : Hid _ := rg.off OG
     have HCE2 : Hid _ := HCE1.out.off HP2.out (fun h => h)
     have HRX2 : Hid _ := HRX1.out.off HP2.out
     clear CG OG rg HP
     obtain ⟨y0, y1, y2, y3, y4, y5, y6, y7, y8, y9⟩ := cel10 HCE2.out
     obtain ⟨z0, z1, z2, z3, z4, z5, z6, z7, z8, z9⟩ := cel10 HCG.out
     by_cases hk : g.key = x.key
     ·have kk1 : (g.key.toList == x.key.toList) = true := by rw [hk]; simp
      have kk2 : g.key.toList = x.key.toList := by rw [hk]
      have HLG : Hid (lackK gs x = lacksB x.key x.f (cont x.l) g.abs) := by show _ = _; unfold lackK; rw [HFS.out, fst_step HGM.out, if_pos hk]
      clear hk
      have HLA : Hid _ := glacks_any x g V2 HRX2.out HRG.out
      generalize hB : lacksB x.key x.f (cont x.l) g.abs = b at HLG HLA
      clear hB
      go_wp2_with fail
      clear y0 y1 y2 y3 y4 y5 y6 y7 y8 y9 z0 z1 z2 z3 z4 z5 z6 z7 z8 z9 kk1 kk2
      refine Calls.mono HLA.out ?_
      rintro e V4 ⟨rfl, o4⟩
      have HP4 : Hid _ := HP2.out.trans o4 (fun _ _ h => h)
      clear o4 HLA HCE2 HRX2 HCG HRG HP2
      have HCE2 : Hid _ := HCE1.out.off HP4.out (fun h => h)
      have HRX2 : Hid _ := HRX1.out.off HP4.out
      have HOG2 : Hid _ := HOG1.out.off HP4.out (fun _ _ _ h => h)
      have HO2 : Hid _ := HO1.out.trans HP4.out (fun _ _ h => h)
      clear HFS HP4 HCE1 HRX1 HOG1 HO1 HG1
      cases b with
      | false =>
       have HLK : Hid (lackK gs x = false) := HLG.out
       clear HLG
       have HAC : Hid (acc ≤ (n + 1) * 1073741824) := acc_le hac
       go_wp2_with fail
       go_roundw
       case rel =>
        refine ⟨n + 1, acc, tq, co, os, rfl, rfl, by go_num, by omega, HAC.out, ?_, by have := HEL.out; omega, HOG2.out, HRS.out, HNW.out, HO2.out⟩
        have hd : es.drop n = x :: es.drop (n + 1) := drop_get HX.out
        have hda := HDA.out
        rw [hd, sndF_skip HLK.out] at hda
        exact hda
       case measure => simp [intOf]; omega
      | true =>
       have HLK : Hid (lackK gs x = true) := HLG.out
       clear HLG
       obtain ⟨y0, y1, y2, y3, y4, y5, y6, y7, y8, y9⟩ := cel10 HCE2.out
       go_wp2_with fail
       clear y0 y1 y2 y3 y4 y5 y6 y7 y8 y9
       have HSE : Hid _ := gsize_any x.key HOK.out.key x.f HOK.out.rng x.a x.cap x.l _ HRX2.out HSM.out
       have HZL : Hid (sizE x.key x.f (cont x.l) ≤ 1073741824) := by show _ ≤ _; have h1 := sizE_le x.key x.f HOK.out.rng x.l (fun v hv => ⟨⟨(HRX2.out.ok v hv).m0, (HRX2.out.ok v hv).m1⟩, (HRX2.out.ok v hv).len⟩) HOK.out.key (by have := HOK.out.few; omega); have h2 := HSM.out; omega
       have hzl : sizE x.key x.f (cont x.l) ≤ 1073741824 := HZL.out
       have hzp : 0 < sizE x.key x.f (cont x.l) := HPOS.out
       clear HZL HPOS
       generalize hZ : sizE x.key x.f (cont x.l) = Z at HSE hzl hzp
       have HZE : Hid (sizE x.key x.f (cont x.l) = Z) := hZ
       clear hZ
       refine Calls.mono HSE.out ?_
       rintro e w1 ⟨rfl, o1⟩
       have HCE3 : Hid _ := HCE2.out.off o1 (fun h => h)
       have HOG3 : Hid _ := HOG2.out.off o1 (fun _ _ _ h => h)
       have HO3 : Hid _ := HO2.out.trans o1 (fun _ _ h => h)
       clear o1 HCE2 HRX2 HOG2 HO2 HSE
       have e6 : (acc : Int) + (Z : Int) = ((acc + Z : Nat) : Int) := by omega
       have HE6 : Hid _ := e6
       clear e6
       by_cases hneg : most < (acc : Int) + (Z : Int)
       ·have e3 : decide (most < (acc : Int) + (Z : Int)) = true := decide_eq_true hneg
        by_cases hem : os = []
        ·have HCN : Hid (¬ (R0 - (acc : Int) - (Z : Int) < 0 ∧ (!os.isEmpty) = true)) := fun h => by rw [hem] at h; simp at h
         have hz0 : os.length = 0 := by rw [hem]; rfl
         have e4 : decide ((0 : Int) < (os.length : Int)) = false := decide_eq_false (by omega)
         have e5 : decide (0 < os.length) = false := decide_eq_false (by omega)
         clear hz0 hem
         have G : Cel w1.heap.size 40 #[.string x.key, .int .i64 (x.f 0), .int .i64 (x.f 1), .int .i64 (x.f 2), .int .i64 (x.f 3), .int .i64 (x.f 4), .int .i64 (x.f 5), .int .i64 (x.f 6), .int .i64 (x.f 7), .slice x.a x.l.length x.cap] (w1.alloc (.cells #[.string x.key, .int .i64 (x.f 0), .int .i64 (x.f 1), .int .i64 (x.f 2), .int .i64 (x.f 3), .int .i64 (x.f 4), .int .i64 (x.f 5), .int .i64 (x.f 6), .int .i64 (x.f 7), .slice x.a x.l.length x.cap] 40)) := Cel.new w1 _ _
         have OA : Off (fun _ => False) w1 (w1.alloc (.cells #[.string x.key, .int .i64 (x.f 0), .int .i64 (x.f 1), .int .i64 (x.f 2), .int .i64 (x.f 3), .int .i64 (x.f 4), .int .i64 (x.f 5), .int .i64 (x.f 6), .int .i64 (x.f 7), .slice x.a x.l.length x.cap] 40)) := (Off.refl _ w1).alloc _
         have G2 : ∀ j u, (ecs x)[j]? = some u → (w1.alloc (.cells #[.string x.key, .int .i64 (x.f 0), .int .i64 (x.f 1), .int .i64 (x.f 2), .int .i64 (x.f 3), .int .i64 (x.f 4), .int .i64 (x.f 5), .int .i64 (x.f 6), .int .i64 (x.f 7), .slice x.a x.l.length x.cap] 40)).cell? ⟨w1.heap.size, j, none⟩ = some u := fun j u hj => by
          rw [G.cell j, ← hj, List.getElem?_toArray]
          rfl
         have HG2 : Hid _ := G2
         have HOA : Hid _ := OA
         clear G G2 OA
         obtain ⟨y0, y1, y2, y3, y4, y5, y6, y7, y8, y9⟩ := cel10 HCE3.out
         go_wp2_with (at_builtin; refine wpList_appG (cs := ecs) rfl (.tmp 49) (.tmp 51) Try.underlying22 Try.infoE rfl (by decide) (by decide) ecs_len ecs_one rfl tq co os rfl (HOG3.out.off HOA.out (fun _ _ _ h => h)) w1.heap.size 1 x rfl HG2.out (by have := HEL.out; omega) ?_; intro tq' co' w3 ys hys own3 o3 at3; have HOWN3 : Hid _ := own3; have HO9 : Hid _ := o3; have HAT : Hid _ := at3; clear own3 o3 at3)
         go_roundw
         case rel =>
          have fo : Off (fun c => blk tq = some c) w1 w3 := (HOA.out.mono (fun _ _ h => h.elim)).trans HO9.out (fun _ _ h => h)
          have hat : blk tq' = blk tq ∨ blk tq' = some (w1.heap.size + 1) := by
           have e := HAT.out
           simpa [World.size_alloc] using e
          have hsz : w.heap.size ≤ w1.heap.size := HO3.out.size
          refine ⟨n + 1, acc + Z, tq', co', ys, rfl, by go_num, by go_num, by omega, by omega, ?_, by rw [hys.out, List.length_append]; have := HEL.out; simp; omega, HOWN3.out, ?_, ?_, ?_⟩
          ·refine Eq.trans ?_ HDA.out
           have hd : es.drop n = x :: es.drop (n + 1) := drop_get HX.out
           have hne : ys.isEmpty = false := by rw [hys.out]; simp
           rw [hd, sndF_take HLK.out (HZE.out ▸ HCN.out), hys.out, snoc_abs, absE_cons, HZE.out, List.append_assoc]
           congr 1
           rw [← hys.out, hne, show R0 - ((acc + Z : Nat) : Int) = R0 - (acc : Int) - (Z : Int) by omega]
           rfl
          ·intro e he
           rw [hys.out, List.mem_append, List.mem_singleton] at he
           rcases he with he | rfl
           ·exact HRS.out e he
           ·exact List.mem_of_getElem? HX.out
          ·intro c hc
           rcases hat with h | h
           ·exact HNW.out c (h ▸ hc)
           ·rw [h] at hc
            simp at hc
            omega
          ·exact HO3.out.trans fo (fun i hi h => by have := HNW.out i h; omega)
         case measure => simp [intOf]; omega
        ·have hpos : 0 < os.length := by cases os with | nil => exact absurd rfl hem | cons _ _ => simp
         have e4 : decide ((0 : Int) < (os.length : Int)) = true := decide_eq_true (by omega)
         have e5 : decide (0 < os.length) = true := decide_eq_true hpos
         have HCN : Hid (R0 - (acc : Int) - (Z : Int) < 0 ∧ (!os.isEmpty) = true) := ⟨by have := HRR.out; omega, by cases os with | nil => exact absurd rfl hem | cons _ _ => rfl⟩
         go_wp2_with fail
         go_ret
         have hd : es.drop n = x :: es.drop (n + 1) := drop_get HX.out
         have hda := HDA.out
         rw [hd, sndF_stop HLK.out (HZE.out ▸ HCN.out)] at hda
         exact ⟨tq, co, os, rfl, by rw [HRR.out, ← hda]; simp [absE], HOG3.out, HRS.out, fun k hk => HNW.out k hk, HO3.out⟩
       ·have e3 : decide (most < (acc : Int) + (Z : Int)) = false := decide_eq_false hneg
        have HCN : Hid (¬ (R0 - (acc : Int) - (Z : Int) < 0 ∧ (!os.isEmpty) = true)) := fun h => by have := HRR.out; have := h.1; omega
        have G : Cel w1.heap.size 40 #[.string x.key, .int .i64 (x.f 0), .int .i64 (x.f 1), .int .i64 (x.f 2), .int .i64 (x.f 3), .int .i64 (x.f 4), .int .i64 (x.f 5), .int .i64 (x.f 6), .int .i64 (x.f 7), .slice x.a x.l.length x.cap] (w1.alloc (.cells #[.string x.key, .int .i64 (x.f 0), .int .i64 (x.f 1), .int .i64 (x.f 2), .int .i64 (x.f 3), .int .i64 (x.f 4), .int .i64 (x.f 5), .int .i64 (x.f 6), .int .i64 (x.f 7), .slice x.a x.l.length x.cap] 40)) := Cel.new w1 _ _
        have OA : Off (fun _ => False) w1 (w1.alloc (.cells #[.string x.key, .int .i64 (x.f 0), .int .i64 (x.f 1), .int .i64 (x.f 2), .int .i64 (x.f 3), .int .i64 (x.f 4), .int .i64 (x.f 5), .int .i64 (x.f 6), .int .i64 (x.f 7), .slice x.a x.l.length x.cap] 40)) := (Off.refl _ w1).alloc _
        have G2 : ∀ j u, (ecs x)[j]? = some u → (w1.alloc (.cells #[.string x.key, .int .i64 (x.f 0), .int .i64 (x.f 1), .int .i64 (x.f 2), .int .i64 (x.f 3), .int .i64 (x.f 4), .int .i64 (x.f 5), .int .i64 (x.f 6), .int .i64 (x.f 7), .slice x.a x.l.length x.cap] 40)).cell? ⟨w1.heap.size, j, none⟩ = some u := fun j u hj => by
         rw [G.cell j, ← hj, List.getElem?_toArray]
         rfl
        have HG2 : Hid _ := G2
        have HOA : Hid _ := OA
        clear G G2 OA
        obtain ⟨y0, y1, y2, y3, y4, y5, y6, y7, y8, y9⟩ := cel10 HCE3.out
        go_wp2_with (at_builtin; refine wpList_appG (cs := ecs) rfl (.tmp 49) (.tmp 51) Try.underlying22 Try.infoE rfl (by decide) (by decide) ecs_len ecs_one rfl tq co os rfl (HOG3.out.off HOA.out (fun _ _ _ h => h)) w1.heap.size 1 x rfl HG2.out (by have := HEL.out; omega) ?_; intro tq' co' w3 ys hys own3 o3 at3; have HOWN3 : Hid _ := own3; have HO9 : Hid _ := o3; have HAT : Hid _ := at3; clear own3 o3 at3)
        go_roundw
        case rel =>
         have fo : Off (fun c => blk tq = some c) w1 w3 := (HOA.out.mono (fun _ _ h => h.elim)).trans HO9.out (fun _ _ h => h)
         have hat : blk tq' = blk tq ∨ blk tq' = some (w1.heap.size + 1) := by
          have e := HAT.out
          simpa [World.size_alloc] using e
         have hsz : w.heap.size ≤ w1.heap.size := HO3.out.size
         refine ⟨n + 1, acc + Z, tq', co', ys, rfl, by go_num, by go_num, by omega, by omega, ?_, by rw [hys.out, List.length_append]; have := HEL.out; simp; omega, HOWN3.out, ?_, ?_, ?_⟩
         ·refine Eq.trans ?_ HDA.out
          have hd : es.drop n = x :: es.drop (n + 1) := drop_get HX.out
          have hne : ys.isEmpty = false := by rw [hys.out]; simp
          rw [hd, sndF_take HLK.out (HZE.out ▸ HCN.out), hys.out, snoc_abs, absE_cons, HZE.out, List.append_assoc]
          congr 1
          rw [← hys.out, hne, show R0 - ((acc + Z : Nat) : Int) = R0 - (acc : Int) - (Z : Int) by omega]
          rfl
         ·intro e he
          rw [hys.out, List.mem_append, List.mem_singleton] at he
          rcases he with he | rfl
          ·exact HRS.out e he
          ·exact List.mem_of_getElem? HX.out
         ·intro c hc
          rcases hat with h | h
          ·exact HNW.out c (h ▸ hc)
          ·rw [h] at hc
           simp at hc
           omega
         ·exact HO3.out.trans fo (fun i hi h => by have := HNW.out i h; omega)
        case measure => simp [intOf]; omega
     ·have kk1 : (g.key.toList == x.key.toList) = false := by rw [toL, toL, beq_eq_false_iff_ne]; exact fun e => hk (kb_inj e)
      have HF2 : Hid (fstK gs x.key = fstK (gs.drop (m + 1)) x.key) := by show _ = _; rw [HFS.out, fst_step HGM.out, if_neg hk]
      clear hk
      go_wp2_with fail
      go_roundw
      case rel => exact ⟨m + 1, rfl, by go_num, by omega, HF2.out, HP2.out⟩
      case measure => simp [intOf]; omega
    ·obtain rfl : m = gs.length := by omega
     have d1 : decide ((gs.length : Int) < (gs.length : Int)) = false := decide_eq_false (by omega)
     have d2 : decide (gs.length < gs.length) = false := decide_eq_false (by omega)
     have HLK : Hid (lackK gs x = true) := by
      have e := HFS.out
      rw [List.drop_length] at e
      show _ = _
      unfold lackK
      rw [e]
      rfl
     have HCE2 : Hid _ := HCE1.out.off HP.out (fun h => h)
     have HRX2 : Hid _ := HRX1.out.off HP.out
     have HOG2 : Hid _ := HOG1.out.off HP.out (fun _ _ _ h => h)
     have HO2 : Hid _ := HO1.out.trans HP.out (fun _ _ h => h)
     clear HFS HP HCE1 HRX1 HOG1 HO1 HG1
     obtain ⟨y0, y1, y2, y3, y4, y5, y6, y7, y8, y9⟩ := cel10 HCE2.out
     go_wp2_with fail
     clear y0 y1 y2 y3 y4 y5 y6 y7 y8 y9
     have HSE : Hid _ := gsize_any x.key HOK.out.key x.f HOK.out.rng x.a x.cap x.l _ HRX2.out HSM.out
     have HZL : Hid (sizE x.key x.f (cont x.l) ≤ 1073741824) := by show _ ≤ _; have h1 := sizE_le x.key x.f HOK.out.rng x.l (fun v hv => ⟨⟨(HRX2.out.ok v hv).m0, (HRX2.out.ok v hv).m1⟩, (HRX2.out.ok v hv).len⟩) HOK.out.key (by have := HOK.out.few; omega); have h2 := HSM.out; omega
     have hzl : sizE x.key x.f (cont x.l) ≤ 1073741824 := HZL.out
     have hzp : 0 < sizE x.key x.f (cont x.l) := HPOS.out
     clear HZL HPOS
     generalize hZ : sizE x.key x.f (cont x.l) = Z at HSE hzl hzp
     have HZE : Hid (sizE x.key x.f (cont x.l) = Z) := hZ
     clear hZ
     refine Calls.mono HSE.out ?_
     rintro e w1 ⟨rfl, o1⟩
     have HCE3 : Hid _ := HCE2.out.off o1 (fun h => h)
     have HOG3 : Hid _ := HOG2.out.off o1 (fun _ _ _ h => h)
     have HO3 : Hid _ := HO2.out.trans o1 (fun _ _ h => h)
     clear o1 HCE2 HRX2 HOG2 HO2 HSE
     have e6 : (acc : Int) + (Z : Int) = ((acc + Z : Nat) : Int) := by omega
     have HE6 : Hid _ := e6
     clear e6
     by_cases hneg : most < (acc : Int) + (Z : Int)
     ·have e3 : decide (most < (acc : Int) + (Z : Int)) = true := decide_eq_true hneg
      by_cases hem : os = []
      ·have HCN : Hid (¬ (R0 - (acc : Int) - (Z : Int) < 0 ∧ (!os.isEmpty) = true)) := fun h => by rw [hem] at h; simp at h
       have hz0 : os.length = 0 := by rw [hem]; rfl
       have e4 : decide ((0 : Int) < (os.length : Int)) = false := decide_eq_false (by omega)
       have e5 : decide (0 < os.length) = false := decide_eq_false (by omega)
       clear hz0 hem
       have G : Cel w1.heap.size 40 #[.string x.key, .int .i64 (x.f 0), .int .i64 (x.f 1), .int .i64 (x.f 2), .int .i64 (x.f 3), .int .i64 (x.f 4), .int .i64 (x.f 5), .int .i64 (x.f 6), .int .i64 (x.f 7), .slice x.a x.l.length x.cap] (w1.alloc (.cells #[.string x.key, .int .i64 (x.f 0), .int .i64 (x.f 1), .int .i64 (x.f 2), .int .i64 (x.f 3), .int .i64 (x.f 4), .int .i64 (x.f 5), .int .i64 (x.f 6), .int .i64 (x.f 7), .slice x.a x.l.length x.cap] 40)) := Cel.new w1 _ _
       have OA : Off (fun _ => False) w1 (w1.alloc (.cells #[.string x.key, .int .i64 (x.f 0), .int .i64 (x.f 1), .int .i64 (x.f 2), .int .i64 (x.f 3), .int .i64 (x.f 4), .int .i64 (x.f 5), .int .i64 (x.f 6), .int .i64 (x.f 7), .slice x.a x.l.length x.cap] 40)) := (Off.refl _ w1).alloc _
       have G2 : ∀ j u, (ecs x)[j]? = some u → (w1.alloc (.cells #[.string x.key, .int .i64 (x.f 0), .int .i64 (x.f 1), .int .i64 (x.f 2), .int .i64 (x.f 3), .int .i64 (x.f 4), .int .i64 (x.f 5), .int .i64 (x.f 6), .int .i64 (x.f 7), .slice x.a x.l.length x.cap] 40)).cell? ⟨w1.heap.size, j, none⟩ = some u := fun j u hj => by
        rw [G.cell j, ← hj, List.getElem?_toArray]
        rfl
       have HG2 : Hid _ := G2
       have HOA : Hid _ := OA
       clear G G2 OA
       obtain ⟨y0, y1, y2, y3, y4, y5, y6, y7, y8, y9⟩ := cel10 HCE3.out
       go_wp2_with (at_builtin; refine wpList_appG (cs := ecs) rfl (.tmp 49) (.tmp 51) Try.underlying22 Try.infoE rfl (by decide) (by decide) ecs_len ecs_one rfl tq co os rfl (HOG3.out.off HOA.out (fun _ _ _ h => h)) w1.heap.size 1 x rfl HG2.out (by have := HEL.out; omega) ?_; intro tq' co' w3 ys hys own3 o3 at3; have HOWN3 : Hid _ := own3; have HO9 : Hid _ := o3; have HAT : Hid _ := at3; clear own3 o3 at3)
       go_roundw
       case rel =>
        have fo : Off (fun c => blk tq = some c) w1 w3 := (HOA.out.mono (fun _ _ h => h.elim)).trans HO9.out (fun _ _ h => h)
        have hat : blk tq' = blk tq ∨ blk tq' = some (w1.heap.size + 1) := by
         have e := HAT.out
         simpa [World.size_alloc] using e
        have hsz : w.heap.size ≤ w1.heap.size := HO3.out.size
        refine ⟨n + 1, acc + Z, tq', co', ys, rfl, by go_num, by go_num, by omega, by omega, ?_, by rw [hys.out, List.length_append]; have := HEL.out; simp; omega, HOWN3.out, ?_, ?_, ?_⟩
        ·refine Eq.trans ?_ HDA.out
         have hd : es.drop n = x :: es.drop (n + 1) := drop_get HX.out
         have hne : ys.isEmpty = false := by rw [hys.out]; simp
         rw [hd, sndF_take HLK.out (HZE.out ▸ HCN.out), hys.out, snoc_abs, absE_cons, HZE.out, List.append_assoc]
         congr 1
         rw [← hys.out, hne, show R0 - ((acc + Z : Nat) : Int) = R0 - (acc : Int) - (Z : Int) by omega]
         rfl
        ·intro e he
         rw [hys.out, List.mem_append, List.mem_singleton] at he
         rcases he with he | rfl
         ·exact HRS.out e he
         ·exact List.mem_of_getElem? HX.out
        ·intro c hc
         rcases hat with h | h
         ·exact HNW.out c (h ▸ hc)
         ·rw [h] at hc
          simp at hc
          omega
        ·exact HO3.out.trans fo (fun i hi h => by have := HNW.out i h; omega)
       case measure => simp [intOf]; omega
      ·have hpos : 0 < os.length := by cases os with | nil => exact absurd rfl hem | cons _ _ => simp
       have e4 : decide ((0 : Int) < (os.length : Int)) = true := decide_eq_true (by omega)
       have e5 : decide (0 < os.length) = true := decide_eq_true hpos
       have HCN : Hid (R0 - (acc : Int) - (Z : Int) < 0 ∧ (!os.isEmpty) = true) := ⟨by have := HRR.out; omega, by cases os with | nil => exact absurd rfl hem | cons _ _ => rfl⟩
       go_wp2_with fail
       go_ret
       have hd : es.drop n = x :: es.drop (n + 1) := drop_get HX.out
       have hda := HDA.out
       rw [hd, sndF_stop HLK.out (HZE.out ▸ HCN.out)] at hda
       exact ⟨tq, co, os, rfl, by rw [HRR.out, ← hda]; simp [absE], HOG3.out, HRS.out, fun k hk => HNW.out k hk, HO3.out⟩
     ·have e3 : decide (most < (acc : Int) + (Z : Int)) = false := decide_eq_false hneg
      have HCN : Hid (¬ (R0 - (acc : Int) - (Z : Int) < 0 ∧ (!os.isEmpty) = true)) := fun h => by have := HRR.out; have := h.1; omega
      have G : Cel w1.heap.size 40 #[.string x.key, .int .i64 (x.f 0), .int .i64 (x.f 1), .int .i64 (x.f 2), .int .i64 (x.f 3), .int .i64 (x.f 4), .int .i64 (x.f 5), .int .i64 (x.f 6), .int .i64 (x.f 7), .slice x.a x.l.length x.cap] (w1.alloc (.cells #[.string x.key, .int .i64 (x.f 0), .int .i64 (x.f 1), .int .i64 (x.f 2), .int .i64 (x.f 3), .int .i64 (x.f 4), .int .i64 (x.f 5), .int .i64 (x.f 6), .int .i64 (x.f 7), .slice x.a x.l.length x.cap] 40)) := Cel.new w1 _ _
      have OA : Off (fun _ => False) w1 (w1.alloc (.cells #[.string x.key, .int .i64 (x.f 0), .int .i64 (x.f 1), .int .i64 (x.f 2), .int .i64 (x.f 3), .int .i64 (x.f 4), .int .i64 (x.f 5), .int .i64 (x.f 6), .int .i64 (x.f 7), .slice x.a x.l.length x.cap] 40)) := (Off.refl _ w1).alloc _
      have G2 : ∀ j u, (ecs x)[j]? = some u → (w1.alloc (.cells #[.string x.key, .int .i64 (x.f 0), .int .i64 (x.f 1), .int .i64 (x.f 2), .int .i64 (x.f 3), .int .i64 (x.f 4), .int .i64 (x.f 5), .int .i64 (x.f 6), .int .i64 (x.f 7), .slice x.a x.l.length x.cap] 40)).cell? ⟨w1.heap.size, j, none⟩ = some u := fun j u hj => by
       rw [G.cell j, ← hj, List.getElem?_toArray]
       rfl
      have HG2 : Hid _ := G2
      have HOA : Hid _ := OA
      clear G G2 OA
      obtain ⟨y0, y1, y2, y3, y4, y5, y6, y7, y8, y9⟩ := cel10 HCE3.out
      go_wp2_with (at_builtin; refine wpList_appG (cs := ecs) rfl (.tmp 49) (.tmp 51) Try.underlying22 Try.infoE rfl (by decide) (by decide) ecs_len ecs_one rfl tq co os rfl (HOG3.out.off HOA.out (fun _ _ _ h => h)) w1.heap.size 1 x rfl HG2.out (by have := HEL.out; omega) ?_; intro tq' co' w3 ys hys own3 o3 at3; have HOWN3 : Hid _ := own3; have HO9 : Hid _ := o3; have HAT : Hid _ := at3; clear own3 o3 at3)
      go_roundw
      case rel =>
       have fo : Off (fun c => blk tq = some c) w1 w3 := (HOA.out.mono (fun _ _ h => h.elim)).trans HO9.out (fun _ _ h => h)
       have hat : blk tq' = blk tq ∨ blk tq' = some (w1.heap.size + 1) := by
        have e := HAT.out
        simpa [World.size_alloc] using e
       have hsz : w.heap.size ≤ w1.heap.size := HO3.out.size
       refine ⟨n + 1, acc + Z, tq', co', ys, rfl, by go_num, by go_num, by omega, by omega, ?_, by rw [hys.out, List.length_append]; have := HEL.out; simp; omega, HOWN3.out, ?_, ?_, ?_⟩
       ·refine Eq.trans ?_ HDA.out
        have hd : es.drop n = x :: es.drop (n + 1) := drop_get HX.out
        have hne : ys.isEmpty = false := by rw [hys.out]; simp
        rw [hd, sndF_take HLK.out (HZE.out ▸ HCN.out), hys.out, snoc_abs, absE_cons, HZE.out, List.append_assoc]
        congr 1
        rw [← hys.out, hne, show R0 - ((acc + Z : Nat) : Int) = R0 - (acc : Int) - (Z : Int) by omega]
        rfl
       ·intro e he
        rw [hys.out, List.mem_append, List.mem_singleton] at he
        rcases he with he | rfl
        ·exact HRS.out e he
        ·exact List.mem_of_getElem? HX.out
       ·intro c hc
        rcases hat with h | h
        ·exact HNW.out c (h ▸ hc)
        ·rw [h] at hc
         simp at hc
         omega
       ·exact HO3.out.trans fo (fun i hi h => by have := HNW.out i h; omega)
      case measure => simp [intOf]; omega
  ·obtain rfl : n = es.length := by omega
   have e1 : decide ((es.length : Int) < (es.length : Int)) = false := decide_eq_false (by omega)
   have e2 : decide (es.length < es.length) = false := decide_eq_false (by omega)
   go_wp2_with fail
   go_ret
   have hda := HDA.out
   rw [List.drop_length] at hda
   exact ⟨tq, co, os, rfl, by rw [HRR.out, ← hda]; simp [absE, sndF], HOG.out, HRS.out, HNW.out, HO.out⟩
end Go.Proofs.Ytpnnpdfmoldiiaa
