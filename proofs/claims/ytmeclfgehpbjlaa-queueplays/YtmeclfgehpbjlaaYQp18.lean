/- Items of several texts. -/
import Derived.Test.YtmeclfgehpbjlaaYQs18
namespace Go.Proofs.Ytmeclfgehpbjlaa
set_option maxRecDepth 100000
open Go.RowKit
theorem celw10 {b : Nat} {t : TypeId} {s0 s1 s2 s3 s4 s5 s6 s7 s8 s9 : Value} {w : World} (h : Cel b t #[s0, s1, s2, s3, s4, s5, s6, s7, s8, s9] w) : w.cell? ⟨b, 0, none⟩ = some s0 ∧ w.cell? ⟨b, 1, none⟩ = some s1 ∧ w.cell? ⟨b, 2, none⟩ = some s2 ∧ w.cell? ⟨b, 3, none⟩ = some s3 ∧ w.cell? ⟨b, 4, none⟩ = some s4 ∧ w.cell? ⟨b, 5, none⟩ = some s5 ∧ w.cell? ⟨b, 6, none⟩ = some s6 ∧ w.cell? ⟨b, 7, none⟩ = some s7 ∧ w.cell? ⟨b, 8, none⟩ = some s8 ∧ w.cell? ⟨b, 9, none⟩ = some s9 :=
 ⟨h.cell 0, h.cell 1, h.cell 2, h.cell 3, h.cell 4, h.cell 5, h.cell 6, h.cell 7, h.cell 8, h.cell 9⟩
structure PutA (D : Nat → Prop) (w2 : World) (Q : Mg → World → Prop) (m : Mg) (b : Int) (q : Nat) (wx : World) : Prop where
 data : ∀ u, Off (fun c => D c) wx u → Q m u
 off : Off (fun _ => False) w2 wx
 cel : Cel q 68 #[.int .i64 (⟨m, b⟩ : Wt).m.k, .int .i64 (⟨m, b⟩ : Wt).m.fr, .int .i64 (⟨m, b⟩ : Wt).m.tn, .int .i64 (⟨m, b⟩ : Wt).m.op, .int .i64 (⟨m, b⟩ : Wt).m.fo, .string (⟨m, b⟩ : Wt).m.key, .int .i64 (⟨m, b⟩ : Wt).m.bk, .slice (⟨m, b⟩ : Wt).m.ea (⟨m, b⟩ : Wt).m.el (⟨m, b⟩ : Wt).m.ec, .slice (⟨m, b⟩ : Wt).m.da (⟨m, b⟩ : Wt).m.dl (⟨m, b⟩ : Wt).m.dc, .slice (⟨m, b⟩ : Wt).m.ma (⟨m, b⟩ : Wt).m.ml (⟨m, b⟩ : Wt).m.mc, .int .i64 (⟨m, b⟩ : Wt).base] wx
 lo : w2.heap.size ≤ q
set_option maxHeartbeats 1000000 in
theorem put_full {D : Nat → Prop} {p : Nat} {xs : List Wt} {most r t : Int} {w : World} (h : Que D p xs most r t w) (x : Mg) (u : Int) (hf : most ≤ xs.length) (hr : r ≤ 1000000000) :
  Calls Try.prog 12 #[.pointer (some ⟨p, 0, none⟩), (.agg #[.int .i64 x.k, .int .i64 x.fr, .int .i64 x.tn, .int .i64 x.op, .int .i64 x.fo, .string x.key, .int .i64 x.bk, .slice x.ea x.el x.ec, .slice x.da x.dl x.dc, .slice x.ma x.ml x.mc]), .int .i64 u] w fun e w' => e = .returned (.int .i64 7) ∧ Que D p xs most (r + 1) t w' ∧ Off (fun c => D c) w w' := by
 have hfew := h.few
 have O : Off (fun _ => False) w (w.alloc (.cells #[.int .i64 x.k, .int .i64 x.fr, .int .i64 x.tn, .int .i64 x.op, .int .i64 x.fo, .string x.key, .int .i64 x.bk, .slice x.ea x.el x.ec, .slice x.da x.dl x.dc, .slice x.ma x.ml x.mc] 31)) := (Off.refl _ w).alloc _
 have h' := h.free O
 have hq := eql_que
 go_enter Try.func12, Try.ntmps12
 go_upto_region 1 with fail
 generalize hv : w.alloc (.cells #[.int .i64 x.k, .int .i64 x.fr, .int .i64 x.tn, .int .i64 x.op, .int .i64 x.fo, .string x.key, .int .i64 x.bk, .slice x.ea x.el x.ec, .slice x.da x.dl x.dc, .slice x.ma x.ml x.mc] 31) = V at O h' ⊢
 clear hv h
 obtain ⟨a, cap, c, d, h1, h2, h3, h4, h5, h6, h7, h8, h9, h10⟩ := h'.is
 have HQ : Hid _ := h'
 have HO : Hid _ := O
 have H1 : Hid _ := add_no h4 1 (by omega) (by omega)
 have H2 : Hid _ := add_yes h5 1 (by omega) (by omega)
 have c2 := h1.cell 2
 have c3 := h1.cell 3
 have HC : Hid _ := h1
 have HW : Hid _ := h2
 have HG : Hid _ := h3
 have HT : Hid _ := h4
 clear h' O h1 h2 h3 h4 h5
 go_wp2_with fail
 refine Calls.mono H1.out ?_
 rintro e w1 ⟨rfl, hw⟩
 rw [hw]
 clear hw w1
 go_wp2_with fail
 refine Calls.mono H2.out ?_
 rintro e w1 ⟨rfl, t1, o1⟩
 have HF : Hid (Que D p xs most (r + 1) t w1 ∧ Off (fun c => D c) w w1) :=
  ⟨⟨HQ.out.dp, fun c hc => Nat.lt_of_lt_of_le (HQ.out.dlt c hc) o1.size, ⟨a, cap, c, d, HC.out.off o1 (fun e => h9 e), HW.out.off o1 (fun g _ hg e => (HG.out g hg).2.2.2 e), HG.out, HT.out.off o1 (fun e => h10 e), t1, h6, h7, h8, h9, h10⟩, HQ.out.sor, HQ.out.most1⟩, (HO.out.mono (fun _ _ h => h.elim)).trans o1 (fun i _ e => by have e : i = d := e; rw [e]; exact h7)⟩
 clear t1 o1
 go_wp2_with fail
 go_ret
 exact ⟨rfl, HF.out⟩
theorem srd_ins {xs : List Wt} {n : Nat} (hs : Srd xs) {y : Wt} (hf : Fdw xs y.base n) : Srd (xs.take n ++ y :: xs.drop n) := by
 have hp := hs
 rw [Srd, ← List.take_append_drop n xs, List.pairwise_append] at hp
 obtain ⟨h1, h2, h3⟩ := hp
 have lo : ∀ x ∈ xs.take n, x.base < y.base := fun x hx => by
  obtain ⟨i, hi⟩ := List.mem_iff_getElem?.1 hx
  rw [List.getElem?_take] at hi
  split at hi
  ·exact hf.lo i x (by omega) hi
  ·simp at hi
 have hi : ∀ x ∈ xs.drop n, y.base ≤ x.base := fun x hx => by
  obtain ⟨i, hi⟩ := List.mem_iff_getElem?.1 hx
  rw [List.getElem?_drop] at hi
  exact hf.hi (n + i) x (by omega) hi
 rw [Srd, List.pairwise_append, List.pairwise_cons]
 refine ⟨h1, ⟨hi, h2⟩, fun a ha b hb => ?_⟩
 rcases List.mem_cons.1 hb with rfl | hb
 ·exact Int.le_of_lt (lo a ha)
 ·exact h3 a ha b hb
theorem put_end {D : Nat → Prop} {p c d n k B : Nat} {a a' : Option Addr} {cap c' : Nat} {xs : List Wt} {most r t b : Int} {m : Mg} {Q : Mg → World → Prop} {w V w2 wc W4 V5 W6 : World}
  (hfd : Fdw xs b n) (hs : Srd xs) (hq : ∀ v, Off (fun c => D c) wc v → Q m v) (hdl : ∀ c, D c → c < w2.heap.size) (hdp : D p) (hd6 : D c ∧ D d) (hg : ∀ g, blk a = some g → D g ∧ g ≠ p ∧ g ≠ c ∧ g ≠ d) (hm1 : most ≤ 1000)
  (o2 : Off (fun c => D c) w w2) (o3 : Off (fun _ => False) w2 wc) (o4 : Off (fun _ => False) wc W4) (o5 : Off (fun _ => False) W4 V5) (o6 : Off (fun c => blk a = some c) V5 W6)
  (ow : OwnG 68 11 wcs W6 a' c' (xs.take n ++ (⟨m, b⟩ : Wt) :: xs.drop n)) (hk : k = (xs.take n ++ (⟨m, b⟩ : Wt) :: xs.drop n).length) (hg6 : ∀ g, blk a' = some g → blk a = some g ∨ V5.heap.size ≤ g)
  (hp : Cel p 62 #[.slice a xs.length cap, .int .i64 t, .pointer (some ⟨c, 0, none⟩), .pointer (some ⟨d, 0, none⟩)] W6) (t4 : Tal c ((xs.length : Int) + 1) most W4) (t54 : Tal d r 9223372036854775807 W4)
  (_ : (xs.length : Int) ≤ most ∧ most ≤ 1000 ∧ 0 ≤ r) (h8 : p ≠ c) (h9 : p ≠ d) (h10 : c ≠ d) (hB : B ≤ V.heap.size) (hV : V.heap.size ≤ w2.heap.size) :
  Que (fun i => D i ∨ blk a' = some i) p (xs.take n ++ (⟨m, b⟩ : Wt) :: xs.drop n) most r t (W6.setCell ⟨p, 0, none⟩ (.slice a' k c')) ∧ Fdw xs b n ∧ (∀ v, Off (fun i => D i ∨ blk a' = some i) (W6.setCell ⟨p, 0, none⟩ (.slice a' k c')) v → Q m v) ∧ (∀ i, D i ∨ blk a' = some i → D i ∨ B ≤ i) ∧ Off (fun c => D c) w (W6.setCell ⟨p, 0, none⟩ (.slice a' k c')) := by
 have z3 := o3.size
 have z4 := o4.size
 have z5 := o5.size
 have hkl : (xs.take n ++ (⟨m, b⟩ : Wt) :: xs.drop n).length = xs.length + 1 := by
  have := hfd.le
  rw [List.length_append, List.length_cons, List.length_take, List.length_drop]
  omega
 have os : Off (fun c => c = p) W6 (W6.setCell ⟨p, 0, none⟩ (.slice a' k c')) := (Off.refl (fun c => c = p) W6).setCell (p := ⟨p, 0, none⟩) (.inl rfl) _
 have o46 : Off (fun i => D i) W4 (W6.setCell ⟨p, 0, none⟩ (.slice a' k c')) := ((o5.mono (fun _ _ h => h.elim)).trans (o6.mono (fun i _ e => (hg i e).1)) (fun _ _ h => h)).trans os (fun i _ e => by have e : i = p := e; rw [e]; exact hdp)
 have o36 : Off (fun i => D i) wc (W6.setCell ⟨p, 0, none⟩ (.slice a' k c')) := (o4.mono (fun _ _ h => h.elim)).trans o46 (fun _ _ h => h)
 have oc : ∀ {x : Nat} {u v : Int}, Tal x u v W4 → x ≠ p → (blk a ≠ some x) → Tal x u v (W6.setCell ⟨p, 0, none⟩ (.slice a' k c')) := fun ht hx hy => ((ht.off o5 (fun h => h)).off o6 hy).off os hx
 have hpl := hdl p hdp
 have hcl := hdl c hd6.1
 have hdl' := hdl d hd6.2
 refine ⟨⟨.inl hdp, ?_, ⟨a', c', c, d, ?_, ow.off os (fun g _ hgg e => ?_), fun g hgg => ⟨.inr hgg, ?_⟩, ?_, oc t54 (fun e => h9 e.symm) (fun e => (hg _ e).2.2.2 rfl), .inl hd6.1, .inl hd6.2, h8, h9, h10⟩, srd_ins hs hfd, hm1⟩, hfd, fun v hv => hq v (o36.trans hv (fun i hi e => ?_)), ?_, o2.trans ((o3.mono (fun _ _ h => h.elim)).trans o36 (fun _ _ h => h)) (fun _ _ h => h)⟩
 ·rintro i (h | h)
  ·have := hdl i h
   have := o36.size
   omega
  ·have := ow.lt i h
   have := os.size
   omega
 ·have := hp.set 0 (.slice a' k c')
  rw [hk] at this ⊢
  exact this
 ·have e : g = p := e
  rcases hg6 g hgg with h | h
  ·exact (hg g h).2.1 e
  ·omega
 ·rcases hg6 g hgg with h | h
  ·exact (hg g h).2
  ·refine ⟨by omega, by omega, by omega⟩
 ·rw [hkl]
  have := oc t4 (fun e => h8 e.symm) (fun e => (hg _ e).2.2.1 rfl)
  rw [Int.natCast_add, Int.natCast_one]
  exact this
 ·rcases e with e | e
  ·exact e
  ·rcases hg6 i e with h | h
   ·exact (hg i h).1
   ·omega
 ·rintro i (h | h)
  ·exact .inl h
  ·rcases hg6 i h with h | h
   ·exact .inl (hg i h).1
   ·right
    omega
set_option maxHeartbeats 4000000 in
theorem put_yes {D : Nat → Prop} {p : Nat} {xs : List Wt} {most r t : Int} {w : World} (h : Que D p xs most r t w) (x : Mg) (u : Int) (hroom : (xs.length : Int) < most) (ht : 0 ≤ t ∧ t ≤ 1000000000) {Q : Mg → World → Prop}
  (hC : ∀ V, Off (fun c => D c) w V → Calls Try.prog 25 #[(.agg #[.int .i64 x.k, .int .i64 x.fr, .int .i64 x.tn, .int .i64 x.op, .int .i64 x.fo, .string x.key, .int .i64 x.bk, .slice x.ea x.el x.ec, .slice x.da x.dl x.dc, .slice x.ma x.ml x.mc])] V fun e w' => ∃ m, e = .returned ((.agg #[.int .i64 m.k, .int .i64 m.fr, .int .i64 m.tn, .int .i64 m.op, .int .i64 m.fo, .string m.key, .int .i64 m.bk, .slice m.ea m.el m.ec, .slice m.da m.dl m.dc, .slice m.ma m.ml m.mc])) ∧ (∀ v, Off (fun c => c < V.heap.size) w' v → Q m v) ∧ Off (fun _ => False) V w') :
  Calls Try.prog 12 #[.pointer (some ⟨p, 0, none⟩), (.agg #[.int .i64 x.k, .int .i64 x.fr, .int .i64 x.tn, .int .i64 x.op, .int .i64 x.fo, .string x.key, .int .i64 x.bk, .slice x.ea x.el x.ec, .slice x.da x.dl x.dc, .slice x.ma x.ml x.mc]), .int .i64 u] w fun e w' => ∃ (m : Mg) (n : Nat) (D' : Nat → Prop), e = .returned (.int .i64 0) ∧ Que D' p (xs.take n ++ (⟨m, wgt u - t⟩ : Wt) :: xs.drop n) most r t w' ∧ Fdw xs (wgt u - t) n ∧ (∀ v, Off (fun c => D' c) w' v → Q m v) ∧ (∀ c, D' c → D c ∨ w.heap.size ≤ c) ∧ Off (fun c => D c) w w' := by
 have hfew := h.few
 have hwg : 0 ≤ wgt u ∧ wgt u ≤ 12 := by unfold wgt; omega
 have O : Off (fun _ => False) w (w.alloc (.cells #[.int .i64 x.k, .int .i64 x.fr, .int .i64 x.tn, .int .i64 x.op, .int .i64 x.fo, .string x.key, .int .i64 x.bk, .slice x.ea x.el x.ec, .slice x.da x.dl x.dc, .slice x.ma x.ml x.mc] 31)) := (Off.refl _ w).alloc _
 have h' := h.free O
 have hq := eql_que
 have hb0 : Cel w.heap.size 31 #[.int .i64 x.k, .int .i64 x.fr, .int .i64 x.tn, .int .i64 x.op, .int .i64 x.fo, .string x.key, .int .i64 x.bk, .slice x.ea x.el x.ec, .slice x.da x.dl x.dc, .slice x.ma x.ml x.mc] (w.alloc (.cells #[.int .i64 x.k, .int .i64 x.fr, .int .i64 x.tn, .int .i64 x.op, .int .i64 x.fo, .string x.key, .int .i64 x.bk, .slice x.ea x.el x.ec, .slice x.da x.dl x.dc, .slice x.ma x.ml x.mc] 31)) := Cel.new w _ _
 go_enter Try.func12, Try.ntmps12
 go_upto_region 1 with fail
 have HB0 : Hid (∀ c, D c → c < w.heap.size) := h.dlt
 generalize hv : w.alloc (.cells #[.int .i64 x.k, .int .i64 x.fr, .int .i64 x.tn, .int .i64 x.op, .int .i64 x.fo, .string x.key, .int .i64 x.bk, .slice x.ea x.el x.ec, .slice x.da x.dl x.dc, .slice x.ma x.ml x.mc] 31) = V at O h' hb0 ⊢
 have HLE : Hid (w.heap.size ≤ V.heap.size) := O.size
 clear hv h
 obtain ⟨a, cap, c, d, h1, h2, h3, h4, h5, h6, h7, h8, h9, h10⟩ := h'.is
 have HWC : Hid (Off (fun c => D c) w V) := O.mono (fun _ _ h => h.elim)
 have HSR : Hid _ := h'.sor
 have H1 : Hid _ := add_yes h4 1 (by omega) (by omega)
 have c2 := h1.cell 2
 have HC : Hid _ := h1
 have HW : Hid _ := h2
 have HG : Hid _ := h3
 have HT5 : Hid _ := h5
 have HDL0 : Hid _ := h'.dlt
 have HDP : Hid _ := h'.dp
 have HD6 : Hid (D c ∧ D d) := ⟨h6, h7⟩
 have HM1 : Hid _ := h'.most1
 have HB1 : Hid _ := hb0
 have hB : w.heap.size ≠ c := fun e => by have := HB0.out c h6; omega
 have HCO : Hid (∀ V, Off (fun c => D c) w V → Calls Try.prog 25 #[(.agg #[.int .i64 x.k, .int .i64 x.fr, .int .i64 x.tn, .int .i64 x.op, .int .i64 x.fo, .string x.key, .int .i64 x.bk, .slice x.ea x.el x.ec, .slice x.da x.dl x.dc, .slice x.ma x.ml x.mc])] V fun e w' => ∃ m, e = .returned ((.agg #[.int .i64 m.k, .int .i64 m.fr, .int .i64 m.tn, .int .i64 m.op, .int .i64 m.fo, .string m.key, .int .i64 m.bk, .slice m.ea m.el m.ec, .slice m.da m.dl m.dc, .slice m.ma m.ml m.mc])) ∧ (∀ v, Off (fun c => c < V.heap.size) w' v → Q m v) ∧ Off (fun _ => False) V w') := hC
 clear h' O h1 h2 h3 h4 h5 hb0 hC h6 h7
 generalize w.heap.size = B at HB1 hB ⊢
 go_wp2_with fail
 refine Calls.mono H1.out ?_
 rintro e w2 ⟨rfl, t2, o2⟩
 have HT2 : Hid _ := t2
 have HP : Hid _ := HC.out.off o2 (fun e => h8 e)
 have HOW : Hid _ := HW.out.off o2 (fun g _ hg e => (HG.out g hg).2.2.1 e)
 have HT5' : Hid _ := HT5.out.off o2 (fun e => h10 e.symm)
 have HB : Hid _ := HB1.out.off o2 hB
 have HVZ : Hid (V.heap.size ≤ w2.heap.size) := o2.size
 have HO2 : Hid (Off (fun c => D c) w w2) := HWC.out.trans o2 (fun i _ e => by have e : i = c := e; rw [e]; exact HD6.out.1)
 have HDL : Hid (∀ c, D c → c < w2.heap.size) := fun c hc => Nat.lt_of_lt_of_le (HDL0.out c hc) o2.size
 clear t2 o2 HC HW HT5 HB1 H1 c2 HDL0 HWC
 go_upto_region 7 with fail
 go_cut [9] from 29 to 38 (fun s9 wx => ∃ (q : Nat) (m : Mg), s9 = .pointer (some ⟨q, 0, none⟩) ∧ PutA D w2 Q m (wgt u - t) q wx)
 case first =>
  refine wp_region_held_drew (S := Off (fun _ => False) w2) (by kernel_rfl) ((Off.refl (fun _ => False) w2).drew) (fun hS => ?_)
  refine take_at (i := 0) 29 (v := (.agg #[.int .i64 x.k, .int .i64 x.fr, .int .i64 x.tn, .int .i64 x.op, .int .i64 x.fo, .string x.key, .int .i64 x.bk, .slice x.ea x.el x.ec, .slice x.da x.dl x.dc, .slice x.ma x.ml x.mc])) rfl rfl (by kernel_rfl) (by kernel_rfl) (by kernel_rfl) (fun _ _ _ h => h) (Or.inl ⟨by rfl, fun w' hw' => by obtain ⟨x0, x1, x2, x3, x4, x5, x6, x7, x8, x9⟩ := celw10 (HB.out.off hw' (fun h => h)); go_simp⟩) hS ?_
  simp only [Act.put, lsA, lsZ, lsS]
  refine take_at (i := 2) 31 (v := .int .i64 u) rfl rfl (by kernel_rfl) (by kernel_rfl) (by kernel_rfl) (fun _ _ _ h => h) (Or.inl ⟨by rfl, fun w' hw' => by go_simp⟩) hS ?_
  simp only [Act.put, lsA, lsZ, lsS]
  refine take_at (i := 4) 33 (v := .pointer (some ⟨p, 0, none⟩)) rfl rfl (by kernel_rfl) (by kernel_rfl) (by kernel_rfl) (fun _ _ _ h => h) (Or.inl ⟨by rfl, fun w' hw' => by go_simp⟩) hS ?_
  simp only [Act.put, lsA, lsZ, lsS]
  refine take_at (i := 5) 34 (v := .pointer (some ⟨p, 0, none⟩)) rfl rfl (by kernel_rfl) (by kernel_rfl) (by kernel_rfl) (fun _ _ _ h => h) (Or.inl ⟨by rfl, fun w' hw' => by go_simp⟩) hS ?_
  simp only [Act.put, lsA, lsZ, lsS]
  refine take_at (i := 6) 35 (v := .pointer (some ⟨p, 1, none⟩)) rfl rfl (by kernel_rfl) (by kernel_rfl) (by kernel_rfl) (fun _ _ _ h => h) (Or.inl ⟨by rfl, fun w' hw' => by go_simp⟩) hS ?_
  simp only [Act.put, lsA, lsZ, lsS]
  refine take_at (i := 7) 36 (v := .int .i64 t) rfl rfl (by kernel_rfl) (by kernel_rfl) (by kernel_rfl) (fun _ _ _ h => h) (Or.inl ⟨by rfl, fun w' hw' => by have := (HP.out.off hw' (fun h => h)).cell 1; go_simp⟩) hS ?_
  simp only [Act.put, lsA, lsZ, lsS]
  refine wpAnyH_ready (rs := [1, 10]) (by kernel_rfl) (by simp) ?_
  refine AllReadyH.cons rfl (fun K' hK' => ?_) (AllReadyH.cons rfl (fun K' hK' => ?_) AllReadyH.nil)
  ·go_simp
   refine (HCO.out _ (HO2.out.trans hS (fun _ _ h => h.elim))).mono ?_
   rintro e0 W1 ⟨m, rfl, hq, o1⟩
   refine hK'.out _ _ (hS.trans o1 (fun _ _ h => h)) (fun hS => ?_)
   clear hK' K'
   have HQM : Hid (∀ v, Off (fun c => c < w2.heap.size) W1 v → Q m v) := hq
   have HSV : Hid (w2.heap.size ≤ W1.heap.size) := o1.size
   clear hq o1
   refine wpAnyH_ready (rs := [3, 10]) (by kernel_rfl) (by simp) ?_
   refine AllReadyH.cons rfl (fun K' hK' => ?_) (AllReadyH.cons rfl (fun K' hK' => ?_) AllReadyH.nil)
   ·go_simp
    refine (weight_any u _).mono ?_
    rintro e0 W9 ⟨rfl, hw⟩
    rw [hw]
    clear hw W9
    refine hK'.out _ _ hS (fun hS => ?_)
    clear hK' K'
    refine take_at (i := 8) 37 (v := .int .i64 (wgt u - t)) rfl rfl (by kernel_rfl) (by kernel_rfl) (by kernel_rfl) (fun _ _ _ h => h) (Or.inl ⟨by rfl, fun w' hw' => by go_simp; rw [IntKind.wrap_i64]; omega⟩) hS ?_
    simp only [Act.put, lsA, lsZ, lsS]
    refine take_at (i := 9) 38 (v := (.agg #[.int .i64 (⟨m, wgt u - t⟩ : Wt).m.k, .int .i64 (⟨m, wgt u - t⟩ : Wt).m.fr, .int .i64 (⟨m, wgt u - t⟩ : Wt).m.tn, .int .i64 (⟨m, wgt u - t⟩ : Wt).m.op, .int .i64 (⟨m, wgt u - t⟩ : Wt).m.fo, .string (⟨m, wgt u - t⟩ : Wt).m.key, .int .i64 (⟨m, wgt u - t⟩ : Wt).m.bk, .slice (⟨m, wgt u - t⟩ : Wt).m.ea (⟨m, wgt u - t⟩ : Wt).m.el (⟨m, wgt u - t⟩ : Wt).m.ec, .slice (⟨m, wgt u - t⟩ : Wt).m.da (⟨m, wgt u - t⟩ : Wt).m.dl (⟨m, wgt u - t⟩ : Wt).m.dc, .slice (⟨m, wgt u - t⟩ : Wt).m.ma (⟨m, wgt u - t⟩ : Wt).m.ml (⟨m, wgt u - t⟩ : Wt).m.mc, .int .i64 (⟨m, wgt u - t⟩ : Wt).base])) rfl rfl (by kernel_rfl) (by kernel_rfl) (by kernel_rfl) (fun _ _ _ h => h) (Or.inl ⟨by rfl, fun w' hw' => by go_simp⟩) hS ?_
    simp only [Act.put, lsA, lsZ, lsS]
    have hS0 := hS
    refine wpAnyH_ready (rs := [10]) (by kernel_rfl) (by simp) ?_
    refine AllReadyH.cons rfl (fun K' hK' => ?_) AllReadyH.nil
    go_simp
    refine hK'.out _ _ (hS.alloc _) (fun hS => ?_)
    clear hK' K'
    have DQ : Cel W1.heap.size 68 #[.int .i64 0, .int .i64 0, .int .i64 0, .int .i64 0, .int .i64 0, .string ⟨#[]⟩, .int .i64 0, .slice none 0 0, .slice none 0 0, .slice none 0 0, .int .i64 0] (W1.alloc (.cells #[.int .i64 0, .int .i64 0, .int .i64 0, .int .i64 0, .int .i64 0, .string ⟨#[]⟩, .int .i64 0, .slice none 0 0, .slice none 0 0, .slice none 0 0, .int .i64 0] 68)) := (Cel.new W1 _ _)
    have OQ : Off (fun _ => False) W1 (W1.alloc (.cells #[.int .i64 0, .int .i64 0, .int .i64 0, .int .i64 0, .int .i64 0, .string ⟨#[]⟩, .int .i64 0, .slice none 0 0, .slice none 0 0, .slice none 0 0, .int .i64 0] 68)) := ((Off.refl _ W1).alloc _)
    have hsz : (W1.alloc (.cells #[.int .i64 0, .int .i64 0, .int .i64 0, .int .i64 0, .int .i64 0, .string ⟨#[]⟩, .int .i64 0, .slice none 0 0, .slice none 0 0, .slice none 0 0, .int .i64 0] 68)).heap.size = W1.heap.size + 1 := World.size_alloc _ _
    generalize hV0 : (W1.alloc (.cells #[.int .i64 0, .int .i64 0, .int .i64 0, .int .i64 0, .int .i64 0, .string ⟨#[]⟩, .int .i64 0, .slice none 0 0, .slice none 0 0, .slice none 0 0, .int .i64 0] 68)) = V0 at DQ hS OQ hsz ⊢
    generalize hQ : W1.heap.size = q at DQ hsz ⊢
    have hlo : w2.heap.size ≤ q := by rw [← hQ]; exact hS0.size
    have HQE : Hid (W1.heap.size = q) := hQ
    clear hV0 hQ
    have CQ : Cel q 68 #[.int .i64 (⟨m, wgt u - t⟩ : Wt).m.k, .int .i64 (⟨m, wgt u - t⟩ : Wt).m.fr, .int .i64 (⟨m, wgt u - t⟩ : Wt).m.tn, .int .i64 (⟨m, wgt u - t⟩ : Wt).m.op, .int .i64 (⟨m, wgt u - t⟩ : Wt).m.fo, .string (⟨m, wgt u - t⟩ : Wt).m.key, .int .i64 (⟨m, wgt u - t⟩ : Wt).m.bk, .slice (⟨m, wgt u - t⟩ : Wt).m.ea (⟨m, wgt u - t⟩ : Wt).m.el (⟨m, wgt u - t⟩ : Wt).m.ec, .slice (⟨m, wgt u - t⟩ : Wt).m.da (⟨m, wgt u - t⟩ : Wt).m.dl (⟨m, wgt u - t⟩ : Wt).m.dc, .slice (⟨m, wgt u - t⟩ : Wt).m.ma (⟨m, wgt u - t⟩ : Wt).m.ml (⟨m, wgt u - t⟩ : Wt).m.mc, .int .i64 (⟨m, wgt u - t⟩ : Wt).base] (wrw q 0 (wcs (⟨m, wgt u - t⟩ : Wt)) V0) := DQ.wrwAll rfl
    have OW : Off (fun c => c = q) V0 (wrw q 0 (wcs (⟨m, wgt u - t⟩ : Wt)) V0) := off_wrw (Off.refl _ V0) (.inl rfl)
    have fz := DQ.free
    obtain ⟨x0, x1, x2, x3, x4, x5, x6, x7, x8, x9, x10⟩ := celw11 DQ
    refine wpAnyH_ready (rs := [11]) (by kernel_rfl) (by simp) ?_
    refine AllReadyH.cons rfl (fun K' hK' => ?_) AllReadyH.nil
    go_simp
    have hS5 : Off (fun _ => False) w2 (wrw q 0 (wcs (⟨m, wgt u - t⟩ : Wt)) V0) := hS.trans OW (fun i hi e => by have e : i = q := e; omega)
    refine hK'.out _ _ hS5 (fun _ => ?_)
    clear hK' K'
    refine wpAnyH_done (by kernel_rfl) ?_ _
    clear fz x0 x1 x2 x3 x4 x5 x6 x7 x8 x9 x10
    have hS5 : Off (fun _ => False) w2 (wrw q 0 (wcs (⟨m, wgt u - t⟩ : Wt)) V0) := hS.trans OW (fun i hi e => by have e : i = q := e; omega)
    have hqv : ∀ v, Off (fun c => D c) (wrw q 0 (wcs (⟨m, wgt u - t⟩ : Wt)) V0) v → Q m v := by
     intro v hv
     have hs := HSV.out
     have h2 := HDL.out
     have he := HQE.out
     refine HQM.out v ?_
     have ho : Off (fun i => i = q) W1 _ := (OQ.mono (fun _ _ h => h.elim)).trans OW (fun i hi e => by have e : i = q := e; omega)
     refine Off.mono (D := fun i => D i ∨ i = q) (Off.trans (ho.mono (fun _ _ e => Or.inr e)) hv (fun i hi e => Or.inl e)) (fun i hi e => ?_)
     rcases e with e | e
     ·exact h2 i e
     ·omega
    have HF : Hid (PutA D w2 Q m (wgt u - t) q (wrw q 0 (wcs (⟨m, wgt u - t⟩ : Wt)) V0)) := ⟨hqv, hS5, CQ, hlo⟩
    clear hqv
    clear DQ CQ OW hS hS5
    go_wp2_with fail
    go_meet
    case rel => exact ⟨q, m, rfl, HF.out⟩
   ·have hS0 := hS
    go_simp
    refine hK'.out _ _ (hS.alloc _) (fun hS => ?_)
    clear hK' K'
    have DQ : Cel W1.heap.size 68 #[.int .i64 0, .int .i64 0, .int .i64 0, .int .i64 0, .int .i64 0, .string ⟨#[]⟩, .int .i64 0, .slice none 0 0, .slice none 0 0, .slice none 0 0, .int .i64 0] (W1.alloc (.cells #[.int .i64 0, .int .i64 0, .int .i64 0, .int .i64 0, .int .i64 0, .string ⟨#[]⟩, .int .i64 0, .slice none 0 0, .slice none 0 0, .slice none 0 0, .int .i64 0] 68)) := (Cel.new W1 _ _)
    have OQ : Off (fun _ => False) W1 (W1.alloc (.cells #[.int .i64 0, .int .i64 0, .int .i64 0, .int .i64 0, .int .i64 0, .string ⟨#[]⟩, .int .i64 0, .slice none 0 0, .slice none 0 0, .slice none 0 0, .int .i64 0] 68)) := ((Off.refl _ W1).alloc _)
    have hsz : (W1.alloc (.cells #[.int .i64 0, .int .i64 0, .int .i64 0, .int .i64 0, .int .i64 0, .string ⟨#[]⟩, .int .i64 0, .slice none 0 0, .slice none 0 0, .slice none 0 0, .int .i64 0] 68)).heap.size = W1.heap.size + 1 := World.size_alloc _ _
    generalize hV0 : (W1.alloc (.cells #[.int .i64 0, .int .i64 0, .int .i64 0, .int .i64 0, .int .i64 0, .string ⟨#[]⟩, .int .i64 0, .slice none 0 0, .slice none 0 0, .slice none 0 0, .int .i64 0] 68)) = V0 at DQ hS OQ hsz ⊢
    generalize hQ : W1.heap.size = q at DQ hsz ⊢
    have hlo : w2.heap.size ≤ q := by rw [← hQ]; exact hS0.size
    have HQE : Hid (W1.heap.size = q) := hQ
    clear hV0 hQ
    refine wpAnyH_ready (rs := [3]) (by kernel_rfl) (by simp) ?_
    refine AllReadyH.cons rfl (fun K' hK' => ?_) AllReadyH.nil
    go_simp
    refine (weight_any u _).mono ?_
    rintro e0 W9 ⟨rfl, hw⟩
    rw [hw]
    clear hw W9
    refine hK'.out _ _ hS (fun hS => ?_)
    clear hK' K'
    refine take_at (i := 8) 37 (v := .int .i64 (wgt u - t)) rfl rfl (by kernel_rfl) (by kernel_rfl) (by kernel_rfl) (fun _ _ _ h => h) (Or.inl ⟨by rfl, fun w' hw' => by go_simp; rw [IntKind.wrap_i64]; omega⟩) hS ?_
    simp only [Act.put, lsA, lsZ, lsS]
    refine take_at (i := 9) 38 (v := (.agg #[.int .i64 (⟨m, wgt u - t⟩ : Wt).m.k, .int .i64 (⟨m, wgt u - t⟩ : Wt).m.fr, .int .i64 (⟨m, wgt u - t⟩ : Wt).m.tn, .int .i64 (⟨m, wgt u - t⟩ : Wt).m.op, .int .i64 (⟨m, wgt u - t⟩ : Wt).m.fo, .string (⟨m, wgt u - t⟩ : Wt).m.key, .int .i64 (⟨m, wgt u - t⟩ : Wt).m.bk, .slice (⟨m, wgt u - t⟩ : Wt).m.ea (⟨m, wgt u - t⟩ : Wt).m.el (⟨m, wgt u - t⟩ : Wt).m.ec, .slice (⟨m, wgt u - t⟩ : Wt).m.da (⟨m, wgt u - t⟩ : Wt).m.dl (⟨m, wgt u - t⟩ : Wt).m.dc, .slice (⟨m, wgt u - t⟩ : Wt).m.ma (⟨m, wgt u - t⟩ : Wt).m.ml (⟨m, wgt u - t⟩ : Wt).m.mc, .int .i64 (⟨m, wgt u - t⟩ : Wt).base])) rfl rfl (by kernel_rfl) (by kernel_rfl) (by kernel_rfl) (fun _ _ _ h => h) (Or.inl ⟨by rfl, fun w' hw' => by go_simp⟩) hS ?_
    simp only [Act.put, lsA, lsZ, lsS]
    have CQ : Cel q 68 #[.int .i64 (⟨m, wgt u - t⟩ : Wt).m.k, .int .i64 (⟨m, wgt u - t⟩ : Wt).m.fr, .int .i64 (⟨m, wgt u - t⟩ : Wt).m.tn, .int .i64 (⟨m, wgt u - t⟩ : Wt).m.op, .int .i64 (⟨m, wgt u - t⟩ : Wt).m.fo, .string (⟨m, wgt u - t⟩ : Wt).m.key, .int .i64 (⟨m, wgt u - t⟩ : Wt).m.bk, .slice (⟨m, wgt u - t⟩ : Wt).m.ea (⟨m, wgt u - t⟩ : Wt).m.el (⟨m, wgt u - t⟩ : Wt).m.ec, .slice (⟨m, wgt u - t⟩ : Wt).m.da (⟨m, wgt u - t⟩ : Wt).m.dl (⟨m, wgt u - t⟩ : Wt).m.dc, .slice (⟨m, wgt u - t⟩ : Wt).m.ma (⟨m, wgt u - t⟩ : Wt).m.ml (⟨m, wgt u - t⟩ : Wt).m.mc, .int .i64 (⟨m, wgt u - t⟩ : Wt).base] (wrw q 0 (wcs (⟨m, wgt u - t⟩ : Wt)) V0) := DQ.wrwAll rfl
    have OW : Off (fun c => c = q) V0 (wrw q 0 (wcs (⟨m, wgt u - t⟩ : Wt)) V0) := off_wrw (Off.refl _ V0) (.inl rfl)
    have fz := DQ.free
    obtain ⟨x0, x1, x2, x3, x4, x5, x6, x7, x8, x9, x10⟩ := celw11 DQ
    refine wpAnyH_ready (rs := [11]) (by kernel_rfl) (by simp) ?_
    refine AllReadyH.cons rfl (fun K' hK' => ?_) AllReadyH.nil
    go_simp
    have hS5 : Off (fun _ => False) w2 (wrw q 0 (wcs (⟨m, wgt u - t⟩ : Wt)) V0) := hS.trans OW (fun i hi e => by have e : i = q := e; omega)
    refine hK'.out _ _ hS5 (fun _ => ?_)
    clear hK' K'
    refine wpAnyH_done (by kernel_rfl) ?_ _
    clear fz x0 x1 x2 x3 x4 x5 x6 x7 x8 x9 x10
    have hS5 : Off (fun _ => False) w2 (wrw q 0 (wcs (⟨m, wgt u - t⟩ : Wt)) V0) := hS.trans OW (fun i hi e => by have e : i = q := e; omega)
    have hqv : ∀ v, Off (fun c => D c) (wrw q 0 (wcs (⟨m, wgt u - t⟩ : Wt)) V0) v → Q m v := by
     intro v hv
     have hs := HSV.out
     have h2 := HDL.out
     have he := HQE.out
     refine HQM.out v ?_
     have ho : Off (fun i => i = q) W1 _ := (OQ.mono (fun _ _ h => h.elim)).trans OW (fun i hi e => by have e : i = q := e; omega)
     refine Off.mono (D := fun i => D i ∨ i = q) (Off.trans (ho.mono (fun _ _ e => Or.inr e)) hv (fun i hi e => Or.inl e)) (fun i hi e => ?_)
     rcases e with e | e
     ·exact h2 i e
     ·omega
    have HF : Hid (PutA D w2 Q m (wgt u - t) q (wrw q 0 (wcs (⟨m, wgt u - t⟩ : Wt)) V0)) := ⟨hqv, hS5, CQ, hlo⟩
    clear hqv
    clear DQ CQ OW hS hS5
    go_wp2_with fail
    go_meet
    case rel => exact ⟨q, m, rfl, HF.out⟩
  ·go_simp
   refine hK'.out _ _ (hS.alloc _) (fun hS => ?_)
   clear hK' K'
   have DQ : Cel w2.heap.size 68 #[.int .i64 0, .int .i64 0, .int .i64 0, .int .i64 0, .int .i64 0, .string ⟨#[]⟩, .int .i64 0, .slice none 0 0, .slice none 0 0, .slice none 0 0, .int .i64 0] (w2.alloc (.cells #[.int .i64 0, .int .i64 0, .int .i64 0, .int .i64 0, .int .i64 0, .string ⟨#[]⟩, .int .i64 0, .slice none 0 0, .slice none 0 0, .slice none 0 0, .int .i64 0] 68)).drew := (Cel.new w2 _ _).drew
   have OQ : Off (fun _ => False) w2 (w2.alloc (.cells #[.int .i64 0, .int .i64 0, .int .i64 0, .int .i64 0, .int .i64 0, .string ⟨#[]⟩, .int .i64 0, .slice none 0 0, .slice none 0 0, .slice none 0 0, .int .i64 0] 68)).drew := ((Off.refl _ w2).alloc _).drew
   have hsz : (w2.alloc (.cells #[.int .i64 0, .int .i64 0, .int .i64 0, .int .i64 0, .int .i64 0, .string ⟨#[]⟩, .int .i64 0, .slice none 0 0, .slice none 0 0, .slice none 0 0, .int .i64 0] 68)).drew.heap.size = w2.heap.size + 1 := World.size_alloc _ _
   generalize hV0 : (w2.alloc (.cells #[.int .i64 0, .int .i64 0, .int .i64 0, .int .i64 0, .int .i64 0, .string ⟨#[]⟩, .int .i64 0, .slice none 0 0, .slice none 0 0, .slice none 0 0, .int .i64 0] 68)).drew = V0 at DQ hS OQ hsz ⊢
   generalize hQ : w2.heap.size = q at DQ hsz ⊢
   have hlo : w2.heap.size ≤ q := by rw [← hQ]; exact Nat.le_refl _
   have HQE : Hid (w2.heap.size = q) := hQ
   clear hV0 hQ
   refine wpAnyH_ready (rs := [1]) (by kernel_rfl) (by simp) ?_
   refine AllReadyH.cons rfl (fun K' hK' => ?_) AllReadyH.nil
   go_simp
   refine (HCO.out _ (HO2.out.trans hS (fun _ _ h => h.elim))).mono ?_
   rintro e0 W1 ⟨m, rfl, hq, o1⟩
   refine hK'.out _ _ (hS.trans o1 (fun _ _ h => h)) (fun hS => ?_)
   clear hK' K'
   have HQM : Hid (∀ v, Off (fun c => c < V0.heap.size) W1 v → Q m v) := hq
   have HSV : Hid (V0.heap.size ≤ W1.heap.size) := o1.size
   replace DQ := DQ.off o1 (fun h => h)
   have HQ1 : Hid _ := OQ.trans o1 (fun _ _ h => h)
   clear hq o1
   refine wpAnyH_ready (rs := [3]) (by kernel_rfl) (by simp) ?_
   refine AllReadyH.cons rfl (fun K' hK' => ?_) AllReadyH.nil
   go_simp
   refine (weight_any u _).mono ?_
   rintro e0 W9 ⟨rfl, hw⟩
   rw [hw]
   clear hw W9
   refine hK'.out _ _ hS (fun hS => ?_)
   clear hK' K'
   refine take_at (i := 8) 37 (v := .int .i64 (wgt u - t)) rfl rfl (by kernel_rfl) (by kernel_rfl) (by kernel_rfl) (fun _ _ _ h => h) (Or.inl ⟨by rfl, fun w' hw' => by go_simp; rw [IntKind.wrap_i64]; omega⟩) hS ?_
   simp only [Act.put, lsA, lsZ, lsS]
   refine take_at (i := 9) 38 (v := (.agg #[.int .i64 (⟨m, wgt u - t⟩ : Wt).m.k, .int .i64 (⟨m, wgt u - t⟩ : Wt).m.fr, .int .i64 (⟨m, wgt u - t⟩ : Wt).m.tn, .int .i64 (⟨m, wgt u - t⟩ : Wt).m.op, .int .i64 (⟨m, wgt u - t⟩ : Wt).m.fo, .string (⟨m, wgt u - t⟩ : Wt).m.key, .int .i64 (⟨m, wgt u - t⟩ : Wt).m.bk, .slice (⟨m, wgt u - t⟩ : Wt).m.ea (⟨m, wgt u - t⟩ : Wt).m.el (⟨m, wgt u - t⟩ : Wt).m.ec, .slice (⟨m, wgt u - t⟩ : Wt).m.da (⟨m, wgt u - t⟩ : Wt).m.dl (⟨m, wgt u - t⟩ : Wt).m.dc, .slice (⟨m, wgt u - t⟩ : Wt).m.ma (⟨m, wgt u - t⟩ : Wt).m.ml (⟨m, wgt u - t⟩ : Wt).m.mc, .int .i64 (⟨m, wgt u - t⟩ : Wt).base])) rfl rfl (by kernel_rfl) (by kernel_rfl) (by kernel_rfl) (fun _ _ _ h => h) (Or.inl ⟨by rfl, fun w' hw' => by go_simp⟩) hS ?_
   simp only [Act.put, lsA, lsZ, lsS]
   have CQ : Cel q 68 #[.int .i64 (⟨m, wgt u - t⟩ : Wt).m.k, .int .i64 (⟨m, wgt u - t⟩ : Wt).m.fr, .int .i64 (⟨m, wgt u - t⟩ : Wt).m.tn, .int .i64 (⟨m, wgt u - t⟩ : Wt).m.op, .int .i64 (⟨m, wgt u - t⟩ : Wt).m.fo, .string (⟨m, wgt u - t⟩ : Wt).m.key, .int .i64 (⟨m, wgt u - t⟩ : Wt).m.bk, .slice (⟨m, wgt u - t⟩ : Wt).m.ea (⟨m, wgt u - t⟩ : Wt).m.el (⟨m, wgt u - t⟩ : Wt).m.ec, .slice (⟨m, wgt u - t⟩ : Wt).m.da (⟨m, wgt u - t⟩ : Wt).m.dl (⟨m, wgt u - t⟩ : Wt).m.dc, .slice (⟨m, wgt u - t⟩ : Wt).m.ma (⟨m, wgt u - t⟩ : Wt).m.ml (⟨m, wgt u - t⟩ : Wt).m.mc, .int .i64 (⟨m, wgt u - t⟩ : Wt).base] (wrw q 0 (wcs (⟨m, wgt u - t⟩ : Wt)) W1) := DQ.wrwAll rfl
   have OW : Off (fun c => c = q) W1 (wrw q 0 (wcs (⟨m, wgt u - t⟩ : Wt)) W1) := off_wrw (Off.refl _ W1) (.inl rfl)
   have fz := DQ.free
   obtain ⟨x0, x1, x2, x3, x4, x5, x6, x7, x8, x9, x10⟩ := celw11 DQ
   refine wpAnyH_ready (rs := [11]) (by kernel_rfl) (by simp) ?_
   refine AllReadyH.cons rfl (fun K' hK' => ?_) AllReadyH.nil
   go_simp
   have hS5 : Off (fun _ => False) w2 (wrw q 0 (wcs (⟨m, wgt u - t⟩ : Wt)) W1) := hS.trans OW (fun i hi e => by have e : i = q := e; omega)
   refine hK'.out _ _ hS5 (fun _ => ?_)
   clear hK' K'
   refine wpAnyH_done (by kernel_rfl) ?_ _
   clear fz x0 x1 x2 x3 x4 x5 x6 x7 x8 x9 x10
   have hS5 : Off (fun _ => False) w2 (wrw q 0 (wcs (⟨m, wgt u - t⟩ : Wt)) W1) := hS.trans OW (fun i hi e => by have e : i = q := e; omega)
   have hqv : ∀ v, Off (fun c => D c) (wrw q 0 (wcs (⟨m, wgt u - t⟩ : Wt)) W1) v → Q m v := by
    intro v hv
    have hs := HSV.out
    have h2 := HDL.out
    have he := HQE.out
    refine HQM.out v ?_
    refine Off.mono (D := fun i => D i ∨ i = q) (Off.trans (OW.mono (fun _ _ e => Or.inr e)) hv (fun i hi e => Or.inl e)) (fun i hi e => ?_)
    rcases e with e | e
    ·have := h2 i e; omega
    ·omega
   have HF : Hid (PutA D w2 Q m (wgt u - t) q (wrw q 0 (wcs (⟨m, wgt u - t⟩ : Wt)) W1)) := ⟨hqv, hS5, CQ, hlo⟩
   clear hqv
   clear DQ CQ OW hS hS5
   go_wp2_with fail
   go_meet
   case rel => exact ⟨q, m, rfl, HF.out⟩
 case rest =>
  obtain ⟨q, m, rfl, hpa⟩ := hcut
  have HQD : Hid (∀ v, Off (fun c => D c) wc v → Q m v) := hpa.data
  have HO3 : Hid (Off (fun _ => False) w2 wc) := hpa.off
  have HCQ : Hid _ := hpa.cel
  have HQL : Hid (w2.heap.size ≤ q) := hpa.lo
  have HP3 : Hid _ := HP.out.off hpa.off (fun h => h)
  have HOW3 : Hid _ := HOW.out.off hpa.off (fun _ _ _ h => h)
  have HT3 : Hid _ := HT2.out.off hpa.off (fun h => h)
  have HT53 : Hid _ := HT5'.out.off hpa.off (fun h => h)
  clear hpa HP HOW HT2 HT5'
  go_upto_region 8 with fail
  refine wp_region_held_drew (S := Off (fun _ => False) wc) (by kernel_rfl) ((Off.refl (fun _ => False) wc).drew) (fun hS => ?_)
  refine take_at (i := 0) 40 (v := .pointer (some ⟨p, 0, none⟩)) rfl rfl (by kernel_rfl) (by kernel_rfl) (by kernel_rfl) (fun _ _ _ h => h) (Or.inl ⟨by rfl, fun w' hw' => by go_simp⟩) hS ?_
  simp only [Act.put, lsA, lsZ, lsS]
  refine take_at (i := 1) 41 (v := .pointer (some ⟨p, 0, none⟩)) rfl rfl (by kernel_rfl) (by kernel_rfl) (by kernel_rfl) (fun _ _ _ h => h) (Or.inl ⟨by rfl, fun w' hw' => by go_simp⟩) hS ?_
  simp only [Act.put, lsA, lsZ, lsS]
  refine take_at (i := 2) 42 (v := .pointer (some ⟨p, 0, none⟩)) rfl rfl (by kernel_rfl) (by kernel_rfl) (by kernel_rfl) (fun _ _ _ h => h) (Or.inl ⟨by rfl, fun w' hw' => by go_simp⟩) hS ?_
  simp only [Act.put, lsA, lsZ, lsS]
  refine take_at (i := 3) 43 (v := .slice a xs.length cap) rfl rfl (by kernel_rfl) (by kernel_rfl) (by kernel_rfl) (fun _ _ _ h => h) (Or.inl ⟨by rfl, fun w' hw' => by have := (HP3.out.off hw' (fun h => h)).cell 0; go_simp⟩) hS ?_
  simp only [Act.put, lsA, lsZ, lsS]
  refine take_at (i := 4) 44 (v := (.agg #[.int .i64 (⟨m, wgt u - t⟩ : Wt).m.k, .int .i64 (⟨m, wgt u - t⟩ : Wt).m.fr, .int .i64 (⟨m, wgt u - t⟩ : Wt).m.tn, .int .i64 (⟨m, wgt u - t⟩ : Wt).m.op, .int .i64 (⟨m, wgt u - t⟩ : Wt).m.fo, .string (⟨m, wgt u - t⟩ : Wt).m.key, .int .i64 (⟨m, wgt u - t⟩ : Wt).m.bk, .slice (⟨m, wgt u - t⟩ : Wt).m.ea (⟨m, wgt u - t⟩ : Wt).m.el (⟨m, wgt u - t⟩ : Wt).m.ec, .slice (⟨m, wgt u - t⟩ : Wt).m.da (⟨m, wgt u - t⟩ : Wt).m.dl (⟨m, wgt u - t⟩ : Wt).m.dc, .slice (⟨m, wgt u - t⟩ : Wt).m.ma (⟨m, wgt u - t⟩ : Wt).m.ml (⟨m, wgt u - t⟩ : Wt).m.mc, .int .i64 (⟨m, wgt u - t⟩ : Wt).base])) rfl rfl (by kernel_rfl) (by kernel_rfl) (by kernel_rfl) (fun _ _ _ h => h) (Or.inl ⟨by rfl, fun w' hw' => by obtain ⟨x0, x1, x2, x3, x4, x5, x6, x7, x8, x9, x10⟩ := celw11 (HCQ.out.off hw' (fun h => h)); go_simp⟩) hS ?_
  simp only [Act.put, lsA, lsZ, lsS]
  refine wpAnyH_ready (rs := [5]) (by kernel_rfl) (by simp) ?_
  refine AllReadyH.cons rfl (fun K' hK' => ?_) AllReadyH.nil
  go_simp
  refine (qsf_any a cap xs (⟨m, wgt u - t⟩ : Wt) _ (HOW3.out.off hS (fun _ _ _ h => h)) HSR.out (by omega)).mono ?_
  rintro e0 W4 ⟨n, b, rfl, hfd, o4⟩
  refine hK'.out _ _ (hS.trans o4 (fun _ _ h => h)) (fun hS => ?_)
  have HFD : Hid _ := hfd
  clear hK' K' hfd o4
  refine take_at (i := 6) 39 (v := .tuple #[.int .i64 (n : Int), .bool b]) rfl rfl (by kernel_rfl) (by kernel_rfl) (by kernel_rfl) (fun _ _ _ h => h) (Or.inl ⟨by rfl, fun w' hw' => by go_simp⟩) hS ?_
  simp only [Act.put, lsA, lsZ, lsS]
  refine take_at (i := 7) 46 (v := .int .i64 (n : Int)) rfl rfl (by kernel_rfl) (by kernel_rfl) (by kernel_rfl) (fun _ _ _ h => h) (Or.inl ⟨by rfl, fun w' hw' => by go_simp⟩) hS ?_
  simp only [Act.put, lsA, lsZ, lsS]
  refine take_at (i := 8) 47 (v := .bool b) rfl rfl (by kernel_rfl) (by kernel_rfl) (by kernel_rfl) (fun _ _ _ h => h) (Or.inl ⟨by rfl, fun w' hw' => by go_simp⟩) hS ?_
  simp only [Act.put, lsA, lsZ, lsS]
  refine take_at (i := 9) 10 (v := .int .i64 (n : Int)) rfl rfl (by kernel_rfl) (by kernel_rfl) (by kernel_rfl) (fun _ _ _ h => h) (Or.inl ⟨by rfl, fun w' hw' => by go_simp⟩) hS ?_
  simp only [Act.put, lsA, lsZ, lsS]
  refine take_at (i := 10) 11 (v := .bool b) rfl rfl (by kernel_rfl) (by kernel_rfl) (by kernel_rfl) (fun _ _ _ h => h) (Or.inl ⟨by rfl, fun w' hw' => by go_simp⟩) hS ?_
  simp only [Act.put, lsA, lsZ, lsS]
  refine wpAnyH_done (by kernel_rfl) ?_ _
  have HO4 : Hid (Off (fun _ => False) wc W4) := hS
  have HP4 : Hid _ := HP3.out.off hS (fun h => h)
  have HOW4 : Hid _ := HOW3.out.off hS (fun _ _ _ h => h)
  have HCQ4 : Hid _ := HCQ.out.off hS (fun h => h)
  have HT4 : Hid _ := HT3.out.off hS (fun h => h)
  have HT54 : Hid _ := HT53.out.off hS (fun h => h)
  clear hS HP3 HOW3 HCQ HT3 HT53
  have HQN : Hid (¬ (blk a = some q ∨ q = p)) := by
   show ¬ _
   rintro (e | e)
   ·have := HDL.out q (HG.out q e).1
    have := HQL.out
    omega
   ·have := HDL.out p HDP.out
    have := HQL.out
    omega
  go_upto_region 9 with fail
  refine wp_region_held_drew (S := Off (fun c => blk a = some c ∨ c = p) W4) (by kernel_rfl) ((Off.refl (fun c => blk a = some c ∨ c = p) W4).drew) (fun hS => ?_)
  refine take_at (i := 0) 48 (v := .pointer (some ⟨p, 0, none⟩)) rfl rfl (by kernel_rfl) (by kernel_rfl) (by kernel_rfl) (fun _ _ _ h => h) (Or.inl ⟨by rfl, fun w' hw' => by go_simp⟩) hS ?_
  simp only [Act.put, lsA, lsZ, lsS]
  refine take_at (i := 1) 49 (v := .pointer (some ⟨p, 0, none⟩)) rfl rfl (by kernel_rfl) (by kernel_rfl) (by kernel_rfl) (fun _ _ _ h => h) (Or.inl ⟨by rfl, fun w' hw' => by go_simp⟩) hS ?_
  simp only [Act.put, lsA, lsZ, lsS]
  refine take_at (i := 2) 50 (v := .pointer (some ⟨p, 0, none⟩)) rfl rfl (by kernel_rfl) (by kernel_rfl) (by kernel_rfl) (fun _ _ _ h => h) (Or.inl ⟨by rfl, fun w' hw' => by go_simp⟩) hS ?_
  simp only [Act.put, lsA, lsZ, lsS]
  refine take_at (i := 3) 51 (v := .pointer (some ⟨p, 0, none⟩)) rfl rfl (by kernel_rfl) (by kernel_rfl) (by kernel_rfl) (fun _ _ _ h => h) (Or.inl ⟨by rfl, fun w' hw' => by go_simp⟩) hS ?_
  simp only [Act.put, lsA, lsZ, lsS]
  refine take_at (i := 5) 53 (v := .int .i64 (n : Int)) rfl rfl (by kernel_rfl) (by kernel_rfl) (by kernel_rfl) (fun _ _ _ h => h) (Or.inl ⟨by rfl, fun w' hw' => by go_simp⟩) hS ?_
  simp only [Act.put, lsA, lsZ, lsS]
  refine take_at (i := 6) 54 (v := (.agg #[.int .i64 (⟨m, wgt u - t⟩ : Wt).m.k, .int .i64 (⟨m, wgt u - t⟩ : Wt).m.fr, .int .i64 (⟨m, wgt u - t⟩ : Wt).m.tn, .int .i64 (⟨m, wgt u - t⟩ : Wt).m.op, .int .i64 (⟨m, wgt u - t⟩ : Wt).m.fo, .string (⟨m, wgt u - t⟩ : Wt).m.key, .int .i64 (⟨m, wgt u - t⟩ : Wt).m.bk, .slice (⟨m, wgt u - t⟩ : Wt).m.ea (⟨m, wgt u - t⟩ : Wt).m.el (⟨m, wgt u - t⟩ : Wt).m.ec, .slice (⟨m, wgt u - t⟩ : Wt).m.da (⟨m, wgt u - t⟩ : Wt).m.dl (⟨m, wgt u - t⟩ : Wt).m.dc, .slice (⟨m, wgt u - t⟩ : Wt).m.ma (⟨m, wgt u - t⟩ : Wt).m.ml (⟨m, wgt u - t⟩ : Wt).m.mc, .int .i64 (⟨m, wgt u - t⟩ : Wt).base])) rfl rfl (by kernel_rfl) (by kernel_rfl) (by kernel_rfl) (fun _ _ _ h => h) (Or.inl ⟨by rfl, fun w' hw' => by obtain ⟨x0, x1, x2, x3, x4, x5, x6, x7, x8, x9, x10⟩ := celw11 (HCQ4.out.off hw' HQN.out); go_simp⟩) hS ?_
  simp only [Act.put, lsA, lsZ, lsS]
  refine wpAnyH_ready (rs := [4, 7]) (by kernel_rfl) (by simp) ?_
  refine AllReadyH.cons rfl (fun K' hK' => ?_) (AllReadyH.cons rfl (fun K' hK' => ?_) AllReadyH.nil)
  ·have c0 : World.cell? W4.drew ⟨p, 0, none⟩ = some (.slice a xs.length cap) := HP4.out.drew.cell 0
   go_simp
   refine hK'.out _ _ hS (fun hS => ?_)
   clear hK' K' c0
   refine wpAnyH_ready (rs := [7]) (by kernel_rfl) (by simp) ?_
   refine AllReadyH.cons rfl (fun K' hK' => ?_) AllReadyH.nil
   go_simp
   refine hK'.out _ _ (hS.alloc _) (fun hS => ?_)
   clear hK' K'
   have DV : Cel W4.heap.size 68 #[.int .i64 (⟨m, wgt u - t⟩ : Wt).m.k, .int .i64 (⟨m, wgt u - t⟩ : Wt).m.fr, .int .i64 (⟨m, wgt u - t⟩ : Wt).m.tn, .int .i64 (⟨m, wgt u - t⟩ : Wt).m.op, .int .i64 (⟨m, wgt u - t⟩ : Wt).m.fo, .string (⟨m, wgt u - t⟩ : Wt).m.key, .int .i64 (⟨m, wgt u - t⟩ : Wt).m.bk, .slice (⟨m, wgt u - t⟩ : Wt).m.ea (⟨m, wgt u - t⟩ : Wt).m.el (⟨m, wgt u - t⟩ : Wt).m.ec, .slice (⟨m, wgt u - t⟩ : Wt).m.da (⟨m, wgt u - t⟩ : Wt).m.dl (⟨m, wgt u - t⟩ : Wt).m.dc, .slice (⟨m, wgt u - t⟩ : Wt).m.ma (⟨m, wgt u - t⟩ : Wt).m.ml (⟨m, wgt u - t⟩ : Wt).m.mc, .int .i64 (⟨m, wgt u - t⟩ : Wt).base] ((W4.alloc (.cells #[.int .i64 (⟨m, wgt u - t⟩ : Wt).m.k, .int .i64 (⟨m, wgt u - t⟩ : Wt).m.fr, .int .i64 (⟨m, wgt u - t⟩ : Wt).m.tn, .int .i64 (⟨m, wgt u - t⟩ : Wt).m.op, .int .i64 (⟨m, wgt u - t⟩ : Wt).m.fo, .string (⟨m, wgt u - t⟩ : Wt).m.key, .int .i64 (⟨m, wgt u - t⟩ : Wt).m.bk, .slice (⟨m, wgt u - t⟩ : Wt).m.ea (⟨m, wgt u - t⟩ : Wt).m.el (⟨m, wgt u - t⟩ : Wt).m.ec, .slice (⟨m, wgt u - t⟩ : Wt).m.da (⟨m, wgt u - t⟩ : Wt).m.dl (⟨m, wgt u - t⟩ : Wt).m.dc, .slice (⟨m, wgt u - t⟩ : Wt).m.ma (⟨m, wgt u - t⟩ : Wt).m.ml (⟨m, wgt u - t⟩ : Wt).m.mc, .int .i64 (⟨m, wgt u - t⟩ : Wt).base] 68)).drew) := (Cel.new W4 _ _).drew
   have OV : Off (fun _ => False) W4 ((W4.alloc (.cells #[.int .i64 (⟨m, wgt u - t⟩ : Wt).m.k, .int .i64 (⟨m, wgt u - t⟩ : Wt).m.fr, .int .i64 (⟨m, wgt u - t⟩ : Wt).m.tn, .int .i64 (⟨m, wgt u - t⟩ : Wt).m.op, .int .i64 (⟨m, wgt u - t⟩ : Wt).m.fo, .string (⟨m, wgt u - t⟩ : Wt).m.key, .int .i64 (⟨m, wgt u - t⟩ : Wt).m.bk, .slice (⟨m, wgt u - t⟩ : Wt).m.ea (⟨m, wgt u - t⟩ : Wt).m.el (⟨m, wgt u - t⟩ : Wt).m.ec, .slice (⟨m, wgt u - t⟩ : Wt).m.da (⟨m, wgt u - t⟩ : Wt).m.dl (⟨m, wgt u - t⟩ : Wt).m.dc, .slice (⟨m, wgt u - t⟩ : Wt).m.ma (⟨m, wgt u - t⟩ : Wt).m.ml (⟨m, wgt u - t⟩ : Wt).m.mc, .int .i64 (⟨m, wgt u - t⟩ : Wt).base] 68)).drew) := ((Off.refl _ W4).alloc _).drew
   generalize hV : (W4.alloc (.cells #[.int .i64 (⟨m, wgt u - t⟩ : Wt).m.k, .int .i64 (⟨m, wgt u - t⟩ : Wt).m.fr, .int .i64 (⟨m, wgt u - t⟩ : Wt).m.tn, .int .i64 (⟨m, wgt u - t⟩ : Wt).m.op, .int .i64 (⟨m, wgt u - t⟩ : Wt).m.fo, .string (⟨m, wgt u - t⟩ : Wt).m.key, .int .i64 (⟨m, wgt u - t⟩ : Wt).m.bk, .slice (⟨m, wgt u - t⟩ : Wt).m.ea (⟨m, wgt u - t⟩ : Wt).m.el (⟨m, wgt u - t⟩ : Wt).m.ec, .slice (⟨m, wgt u - t⟩ : Wt).m.da (⟨m, wgt u - t⟩ : Wt).m.dl (⟨m, wgt u - t⟩ : Wt).m.dc, .slice (⟨m, wgt u - t⟩ : Wt).m.ma (⟨m, wgt u - t⟩ : Wt).m.ml (⟨m, wgt u - t⟩ : Wt).m.mc, .int .i64 (⟨m, wgt u - t⟩ : Wt).base] 68)).drew = V5 at DV OV hS ⊢
   generalize hvb : W4.heap.size = vb at DV ⊢
   have HVB : Hid (W4.heap.size = vb) := hvb
   have HDV : Hid _ := DV
   have HWV : Hid _ := OV
   clear hV hvb DV OV
   refine wpAnyH_ready (rs := [8]) (by kernel_rfl) (by simp) ?_
   refine AllReadyH.cons rfl (fun K' hK' => ?_) AllReadyH.nil
   have hnv : blk a ≠ some vb := fun e => by
    have := HDL.out vb (HG.out vb e).1
    have h1 := HVB.out
    have h2 := HO3.out.size
    have h3 := HO4.out.size
    omega
   go_simp
   refine (wins_any a cap xs n (⟨m, wgt u - t⟩ : Wt) vb _ (HOW4.out.off HWV.out (fun _ _ _ h => h)) HFD.out.le (by omega) HDV.out hnv _ rfl).mono ?_
   rintro e0 W6 ⟨a', c', k, rfl, hk, own', o6, hg'⟩
   refine hK'.out _ _ (hS.trans o6 (fun i hi e => .inl e)) (fun hS => ?_)
   have HK : Hid _ := hk
   have HOW6 : Hid _ := own'
   have HO6 : Hid _ := o6
   have HG6 : Hid _ := hg'
   clear hK' K' hk own' o6 hg' hnv hS
   have hS : Off (fun c => blk a = some c ∨ c = p) W4 W6 := (HWV.out.mono (fun _ _ h => h.elim)).trans HO6.out (fun i hi e => .inl e)
   refine take_at (i := 9) 57 (v := .pointer (some ⟨p, 0, none⟩)) rfl rfl (by kernel_rfl) (by kernel_rfl) (by kernel_rfl) (fun _ _ _ h => h) (Or.inl ⟨by rfl, fun w' hw' => by go_simp⟩) hS ?_
   simp only [Act.put, lsA, lsZ, lsS]
   refine take_at (i := 10) 58 (v := .pointer (some ⟨p, 0, none⟩)) rfl rfl (by kernel_rfl) (by kernel_rfl) (by kernel_rfl) (fun _ _ _ h => h) (Or.inl ⟨by rfl, fun w' hw' => by go_simp⟩) hS ?_
   simp only [Act.put, lsA, lsZ, lsS]
   have HP6 : Hid _ := (HP4.out.off HWV.out (fun h => h)).off HO6.out (fun e => (HG.out p e).2.1 rfl)
   have fz := HP6.out.free 0
   have c0 := HP6.out.cell 0
   refine wpAnyH_ready (rs := [11]) (by kernel_rfl) (by simp) ?_
   refine AllReadyH.cons rfl (fun K' hK' => ?_) AllReadyH.nil
   go_simp
   have hS5 : Off (fun c => blk a = some c ∨ c = p) W4 (W6.setCell ⟨p, 0, none⟩ (.slice a' k c')) := ((HWV.out.mono (fun _ _ h => h.elim)).trans HO6.out (fun i hi e => .inl e)).setCell (p := ⟨p, 0, none⟩) (.inl (.inr rfl)) _
   refine hK'.out _ _ hS5 (fun _ => ?_)
   clear hK' K' hS5
   refine wpAnyH_done (by kernel_rfl) ?_ _
   clear fz c0
   have HF : Hid _ := put_end HFD.out HSR.out HQD.out HDL.out HDP.out HD6.out HG.out HM1.out HO2.out HO3.out HO4.out HWV.out HO6.out HOW6.out HK.out HG6.out HP6.out HT4.out HT54.out hfew h8 h9 h10 HLE.out HVZ.out
   go_wp2_with fail
   go_ret
   exact ⟨rfl, m, n, fun i => D i ∨ blk a' = some i, HF.out⟩
  ·go_simp
   refine hK'.out _ _ (hS.alloc _) (fun hS => ?_)
   clear hK' K'
   have DV : Cel W4.heap.size 68 #[.int .i64 (⟨m, wgt u - t⟩ : Wt).m.k, .int .i64 (⟨m, wgt u - t⟩ : Wt).m.fr, .int .i64 (⟨m, wgt u - t⟩ : Wt).m.tn, .int .i64 (⟨m, wgt u - t⟩ : Wt).m.op, .int .i64 (⟨m, wgt u - t⟩ : Wt).m.fo, .string (⟨m, wgt u - t⟩ : Wt).m.key, .int .i64 (⟨m, wgt u - t⟩ : Wt).m.bk, .slice (⟨m, wgt u - t⟩ : Wt).m.ea (⟨m, wgt u - t⟩ : Wt).m.el (⟨m, wgt u - t⟩ : Wt).m.ec, .slice (⟨m, wgt u - t⟩ : Wt).m.da (⟨m, wgt u - t⟩ : Wt).m.dl (⟨m, wgt u - t⟩ : Wt).m.dc, .slice (⟨m, wgt u - t⟩ : Wt).m.ma (⟨m, wgt u - t⟩ : Wt).m.ml (⟨m, wgt u - t⟩ : Wt).m.mc, .int .i64 (⟨m, wgt u - t⟩ : Wt).base] ((W4.alloc (.cells #[.int .i64 (⟨m, wgt u - t⟩ : Wt).m.k, .int .i64 (⟨m, wgt u - t⟩ : Wt).m.fr, .int .i64 (⟨m, wgt u - t⟩ : Wt).m.tn, .int .i64 (⟨m, wgt u - t⟩ : Wt).m.op, .int .i64 (⟨m, wgt u - t⟩ : Wt).m.fo, .string (⟨m, wgt u - t⟩ : Wt).m.key, .int .i64 (⟨m, wgt u - t⟩ : Wt).m.bk, .slice (⟨m, wgt u - t⟩ : Wt).m.ea (⟨m, wgt u - t⟩ : Wt).m.el (⟨m, wgt u - t⟩ : Wt).m.ec, .slice (⟨m, wgt u - t⟩ : Wt).m.da (⟨m, wgt u - t⟩ : Wt).m.dl (⟨m, wgt u - t⟩ : Wt).m.dc, .slice (⟨m, wgt u - t⟩ : Wt).m.ma (⟨m, wgt u - t⟩ : Wt).m.ml (⟨m, wgt u - t⟩ : Wt).m.mc, .int .i64 (⟨m, wgt u - t⟩ : Wt).base] 68)).drew) := (Cel.new W4 _ _).drew
   have OV : Off (fun _ => False) W4 ((W4.alloc (.cells #[.int .i64 (⟨m, wgt u - t⟩ : Wt).m.k, .int .i64 (⟨m, wgt u - t⟩ : Wt).m.fr, .int .i64 (⟨m, wgt u - t⟩ : Wt).m.tn, .int .i64 (⟨m, wgt u - t⟩ : Wt).m.op, .int .i64 (⟨m, wgt u - t⟩ : Wt).m.fo, .string (⟨m, wgt u - t⟩ : Wt).m.key, .int .i64 (⟨m, wgt u - t⟩ : Wt).m.bk, .slice (⟨m, wgt u - t⟩ : Wt).m.ea (⟨m, wgt u - t⟩ : Wt).m.el (⟨m, wgt u - t⟩ : Wt).m.ec, .slice (⟨m, wgt u - t⟩ : Wt).m.da (⟨m, wgt u - t⟩ : Wt).m.dl (⟨m, wgt u - t⟩ : Wt).m.dc, .slice (⟨m, wgt u - t⟩ : Wt).m.ma (⟨m, wgt u - t⟩ : Wt).m.ml (⟨m, wgt u - t⟩ : Wt).m.mc, .int .i64 (⟨m, wgt u - t⟩ : Wt).base] 68)).drew) := ((Off.refl _ W4).alloc _).drew
   generalize hV : (W4.alloc (.cells #[.int .i64 (⟨m, wgt u - t⟩ : Wt).m.k, .int .i64 (⟨m, wgt u - t⟩ : Wt).m.fr, .int .i64 (⟨m, wgt u - t⟩ : Wt).m.tn, .int .i64 (⟨m, wgt u - t⟩ : Wt).m.op, .int .i64 (⟨m, wgt u - t⟩ : Wt).m.fo, .string (⟨m, wgt u - t⟩ : Wt).m.key, .int .i64 (⟨m, wgt u - t⟩ : Wt).m.bk, .slice (⟨m, wgt u - t⟩ : Wt).m.ea (⟨m, wgt u - t⟩ : Wt).m.el (⟨m, wgt u - t⟩ : Wt).m.ec, .slice (⟨m, wgt u - t⟩ : Wt).m.da (⟨m, wgt u - t⟩ : Wt).m.dl (⟨m, wgt u - t⟩ : Wt).m.dc, .slice (⟨m, wgt u - t⟩ : Wt).m.ma (⟨m, wgt u - t⟩ : Wt).m.ml (⟨m, wgt u - t⟩ : Wt).m.mc, .int .i64 (⟨m, wgt u - t⟩ : Wt).base] 68)).drew = V5 at DV OV hS ⊢
   generalize hvb : W4.heap.size = vb at DV ⊢
   have HVB : Hid (W4.heap.size = vb) := hvb
   have HDV : Hid _ := DV
   have HWV : Hid _ := OV
   clear hV hvb DV OV
   refine wpAnyH_ready (rs := [4]) (by kernel_rfl) (by simp) ?_
   refine AllReadyH.cons rfl (fun K' hK' => ?_) AllReadyH.nil
   have c0 : World.cell? V5 ⟨p, 0, none⟩ = some (.slice a xs.length cap) := (HP4.out.off HWV.out (fun h => h)).cell 0
   go_simp
   refine hK'.out _ _ hS (fun hS => ?_)
   clear hK' K' c0
   refine wpAnyH_ready (rs := [8]) (by kernel_rfl) (by simp) ?_
   refine AllReadyH.cons rfl (fun K' hK' => ?_) AllReadyH.nil
   have hnv : blk a ≠ some vb := fun e => by
    have := HDL.out vb (HG.out vb e).1
    have h1 := HVB.out
    have h2 := HO3.out.size
    have h3 := HO4.out.size
    omega
   go_simp
   refine (wins_any a cap xs n (⟨m, wgt u - t⟩ : Wt) vb _ (HOW4.out.off HWV.out (fun _ _ _ h => h)) HFD.out.le (by omega) HDV.out hnv _ rfl).mono ?_
   rintro e0 W6 ⟨a', c', k, rfl, hk, own', o6, hg'⟩
   refine hK'.out _ _ (hS.trans o6 (fun i hi e => .inl e)) (fun hS => ?_)
   have HK : Hid _ := hk
   have HOW6 : Hid _ := own'
   have HO6 : Hid _ := o6
   have HG6 : Hid _ := hg'
   clear hK' K' hk own' o6 hg' hnv hS
   have hS : Off (fun c => blk a = some c ∨ c = p) W4 W6 := (HWV.out.mono (fun _ _ h => h.elim)).trans HO6.out (fun i hi e => .inl e)
   refine take_at (i := 9) 57 (v := .pointer (some ⟨p, 0, none⟩)) rfl rfl (by kernel_rfl) (by kernel_rfl) (by kernel_rfl) (fun _ _ _ h => h) (Or.inl ⟨by rfl, fun w' hw' => by go_simp⟩) hS ?_
   simp only [Act.put, lsA, lsZ, lsS]
   refine take_at (i := 10) 58 (v := .pointer (some ⟨p, 0, none⟩)) rfl rfl (by kernel_rfl) (by kernel_rfl) (by kernel_rfl) (fun _ _ _ h => h) (Or.inl ⟨by rfl, fun w' hw' => by go_simp⟩) hS ?_
   simp only [Act.put, lsA, lsZ, lsS]
   have HP6 : Hid _ := (HP4.out.off HWV.out (fun h => h)).off HO6.out (fun e => (HG.out p e).2.1 rfl)
   have fz := HP6.out.free 0
   have c0 := HP6.out.cell 0
   refine wpAnyH_ready (rs := [11]) (by kernel_rfl) (by simp) ?_
   refine AllReadyH.cons rfl (fun K' hK' => ?_) AllReadyH.nil
   go_simp
   have hS5 : Off (fun c => blk a = some c ∨ c = p) W4 (W6.setCell ⟨p, 0, none⟩ (.slice a' k c')) := ((HWV.out.mono (fun _ _ h => h.elim)).trans HO6.out (fun i hi e => .inl e)).setCell (p := ⟨p, 0, none⟩) (.inl (.inr rfl)) _
   refine hK'.out _ _ hS5 (fun _ => ?_)
   clear hK' K' hS5
   refine wpAnyH_done (by kernel_rfl) ?_ _
   clear fz c0
   have HF : Hid _ := put_end HFD.out HSR.out HQD.out HDL.out HDP.out HD6.out HG.out HM1.out HO2.out HO3.out HO4.out HWV.out HO6.out HOW6.out HK.out HG6.out HP6.out HT4.out HT54.out hfew h8 h9 h10 HLE.out HVZ.out
   go_wp2_with fail
   go_ret
   exact ⟨rfl, m, n, fun i => D i ∨ blk a' = some i, HF.out⟩
end Go.Proofs.Ytmeclfgehpbjlaa
