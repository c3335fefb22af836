/- Items of several texts. -/
import Derived.Test.YtmeclfgehpbjlaaYQv18
namespace Go.Proofs.Ytmeclfgehpbjlaa
set_option maxRecDepth 100000
open Go.RowKit
set_option maxHeartbeats 2000000 in
theorem rqtake_none {N : Int → NF} {W : World} {R : Nat → Prop} {q : Nat} {most r t : Int} {w : World} (h : RQ N W R q [] most r t w) :
  Calls Try.prog 15 #[.pointer (some ⟨q, 0, none⟩)] w fun e w' => e = .returned (.tuple #[(.agg #[.int .i64 mz.k, .int .i64 mz.fr, .int .i64 mz.tn, .int .i64 mz.op, .int .i64 mz.fo, .string mz.key, .int .i64 mz.bk, .slice mz.ea mz.el mz.ec, .slice mz.da mz.dl mz.dc, .slice mz.ma mz.ml mz.mc]), .bool false]) ∧ Off (fun _ => False) w w' := by
 have C := Cel.new w 31 #[.int .i64 0, .int .i64 0, .int .i64 0, .int .i64 0, .int .i64 0, .string ⟨#[]⟩, .int .i64 0, .slice none 0 0, .slice none 0 0, .slice none 0 0]
 have O : Off (fun _ => False) w (w.alloc (.cells #[.int .i64 0, .int .i64 0, .int .i64 0, .int .i64 0, .int .i64 0, .string ⟨#[]⟩, .int .i64 0, .slice none 0 0, .slice none 0 0, .slice none 0 0] 31)) := (Off.refl _ w).alloc _
 obtain ⟨a, cap, xs, h1, h2, h3, h4, h5⟩ := h.is
 rw [h4] at h1
 have h1' := h1.off O (fun h => h)
 have hqw := (h.dlt q h.dp).2
 go_enter Try.func15, Try.ntmps15
 go_upto_region 1 with fail
 generalize hv : w.alloc (.cells #[.int .i64 0, .int .i64 0, .int .i64 0, .int .i64 0, .int .i64 0, .string ⟨#[]⟩, .int .i64 0, .slice none 0 0, .slice none 0 0, .slice none 0 0] 31) = V at C O h1' ⊢
 have c0 : V.cell? ⟨q, 0, none⟩ = some (.slice a 0 cap) := h1'.cell 0
 have HC : Hid _ := C
 have HO : Hid _ := O
 clear hv C O h1' h h1 h2 h3 h4 h5
 go_wp2_with fail
 go_loopw [13, 4] (fun s13 s4 wr => s13 = .int .i64 0 ∧ s4 = .int .i64 (-1) ∧ Hid (Off (fun _ => False) V wr)) (fun _ _ _ => 0)
 case atStart => exact ⟨rfl, rfl, Off.refl _ _⟩
 case round =>
  obtain ⟨rfl, rfl, HO2⟩ := hrel
  have HC2 : Hid _ := HC.out.off HO2.out (fun h => h)
  have fz := HC2.out.free
  obtain ⟨x0, x1, x2, x3, x4, x5, x6, x7, x8, x9⟩ := celw10 HC2.out
  go_wp2_with fail
  refine bodyPost_ret (results_msg2 (x := mz) rfl rfl rfl (HC2.out.wrwAll (vs := mcs mz) rfl)) rfl ?_
  exact ⟨rfl, (HO.out.trans HO2.out (fun _ _ h => h)).trans (off_wrw (g := w.heap.size) (us := mcs mz) (Off.refl (fun c => c = w.heap.size) wr) (.inl rfl)) (fun i hi e => by have e : i = w.heap.size := e; omega)⟩
set_option maxHeartbeats 4000000 in
theorem rqtake_some {N : Int → NF} {W : World} {R : Nat → Prop} {q : Nat} {l1 l2 : List (Int × Int)} {k b : Int} {most r t : Int} {w : World} (h : RQ N W R q (l1 ++ (k, b) :: l2) most r t w) (hb1 : ∀ x ∈ l1, x.2 < b) (hb2 : ∀ x ∈ l2, x.2 ≤ b) :
  Calls Try.prog 15 #[.pointer (some ⟨q, 0, none⟩)] w fun e w' => ∃ (m : Mg) (R' : Nat → Prop), e = .returned (.tuple #[(.agg #[.int .i64 m.k, .int .i64 m.fr, .int .i64 m.tn, .int .i64 m.op, .int .i64 m.fo, .string m.key, .int .i64 m.bk, .slice m.ea m.el m.ec, .slice m.da m.dl m.dc, .slice m.ma m.ml m.mc]), .bool true]) ∧ Rd N k m W ∧ RQ N W R' q (l1 ++ l2) most r t w' ∧ (∀ c, R' c → R c ∨ w.heap.size ≤ c) ∧ Off (fun c => c = q) w w' := by
 have C := Cel.new w 31 #[.int .i64 0, .int .i64 0, .int .i64 0, .int .i64 0, .int .i64 0, .string ⟨#[]⟩, .int .i64 0, .slice none 0 0, .slice none 0 0, .slice none 0 0]
 have O : Off (fun _ => False) w (w.alloc (.cells #[.int .i64 0, .int .i64 0, .int .i64 0, .int .i64 0, .int .i64 0, .string ⟨#[]⟩, .int .i64 0, .slice none 0 0, .slice none 0 0, .slice none 0 0] 31)) := (Off.refl _ w).alloc _
 have h' := h.free O
 have hqw := (h.dlt q h.dp).2
 have HBB : Hid ((∀ x ∈ l1, x.2 < b) ∧ ∀ x ∈ l2, x.2 ≤ b) := ⟨hb1, hb2⟩
 go_enter Try.func15, Try.ntmps15
 go_upto_region 1 with fail
 generalize hv : w.alloc (.cells #[.int .i64 0, .int .i64 0, .int .i64 0, .int .i64 0, .int .i64 0, .string ⟨#[]⟩, .int .i64 0, .slice none 0 0, .slice none 0 0, .slice none 0 0] 31) = V0 at C O h' ⊢
 obtain ⟨a, cap, xs, h1, h2, h3, h4, h5⟩ := h'.is
 have hxn : xs ≠ [] := fun e => by rw [e] at h4; simp at h4
 obtain ⟨g, cur, rfl, -, hlc, hcm, -, -⟩ := h2.celw (fun e => hxn (h2.nnw e))
 have hx1 : xs.length ≤ 1000 := by have := h.few; omega
 have HXC : Hid (∀ v, Off (fun _ => False) V0 v → ∀ (i : Nat) (x : Wt), xs[i]? = some x → v.cell? ⟨g, i * 11, none⟩ = some (.int .i64 x.m.k) ∧ v.cell? ⟨g, i * 11 + 1, none⟩ = some (.int .i64 x.m.fr) ∧ v.cell? ⟨g, i * 11 + 2, none⟩ = some (.int .i64 x.m.tn) ∧ v.cell? ⟨g, i * 11 + 3, none⟩ = some (.int .i64 x.m.op) ∧ v.cell? ⟨g, i * 11 + 4, none⟩ = some (.int .i64 x.m.fo) ∧ v.cell? ⟨g, i * 11 + 5, none⟩ = some (.string x.m.key) ∧ v.cell? ⟨g, i * 11 + 6, none⟩ = some (.int .i64 x.m.bk) ∧ v.cell? ⟨g, i * 11 + 7, none⟩ = some (.slice x.m.ea x.m.el x.m.ec) ∧ v.cell? ⟨g, i * 11 + 8, none⟩ = some (.slice x.m.da x.m.dl x.m.dc) ∧ v.cell? ⟨g, i * 11 + 9, none⟩ = some (.slice x.m.ma x.m.ml x.m.mc) ∧ v.cell? ⟨g, i * 11 + 10, none⟩ = some (.int .i64 x.base)) := fun v hv i x hx => by
  obtain ⟨g', eg, hat⟩ := h2.at_ wcs_len hx
  simp only [Option.some.injEq, Addr.mk.injEq, and_true] at eg
  subst eg
  have f : ∀ j u, (wcs x)[j]? = some u → v.cell? ⟨g, i * 11 + j, none⟩ = some u := fun j u hj => by
   have h2 := hat j u hj
   rw [← h2]
   exact World.cell?_of_block (a := ⟨g, i * 11 + j, none⟩) (hv.block g (cell_lt h2) (fun h => h))
  exact ⟨f 0 _ rfl, f 1 _ rfl, f 2 _ rfl, f 3 _ rfl, f 4 _ rfl, f 5 _ rfl, f 6 _ rfl, f 7 _ rfl, f 8 _ rfl, f 9 _ rfl, f 10 _ rfl⟩
 have HR0 : Hid _ := h'
 have HP0 : Hid _ := h1
 have HOW0 : Hid _ := h2
 have HC0 : Hid _ := C
 have HVO0 : Hid _ := O
 have HL4 : Hid _ := h4
 have HH5 : Hid _ := h5
 have HFW : Hid (((l1 ++ (k, b) :: l2).length : Int) ≤ most) := h.few.1
 have HW0 : Hid _ := h.wt
 generalize hwb : w.heap.size = b2 at *
 have HWB : Hid (w.heap.size = b2) := hwb
 have HWW : Hid (W.heap.size ≤ b2) := by have := h.off.size; show _ ≤ _; omega
 have hbq : b2 ≠ q := by omega
 have c0 := h1.cell 0
 clear hwb hv C O h h' h1 h2 h3 h4 h5 hb1 hb2 hxn
 go_wp2_with fail
 go_loopw [13, 4] (fun s13 s4 wr => ∃ (i : Nat) (p : Int), s13 = .int .i64 (i : Int) ∧ s4 = .int .i64 p ∧ i ≤ xs.length ∧ Hid (Top xs i p) ∧ Hid (Off (fun _ => False) V0 wr)) (fun s _ _ => ((xs.length : Int) - intOf s).toNat)
 case atStart => exact ⟨0, -1, rfl, rfl, by omega, .inl ⟨rfl, rfl⟩, Off.refl _ _⟩
 case round =>
  obtain ⟨i, p, rfl, rfl, hi, HT, HO⟩ := hrel
  by_cases hlt : i < xs.length
  ·obtain ⟨z, hz⟩ : ∃ z, xs[i]? = some z := ⟨_, List.getElem?_eq_getElem hlt⟩
   obtain ⟨x0, x1, x2, x3, x4, x5, x6, x7, x8, x9, x10⟩ := HXC.out _ HO.out i z hz
   have HZ : Hid _ := hz
   clear hz c0
   go_upto_region 5 with fail
   have O9 : Off (fun _ => False) wr (wr.alloc (.cells #[.int .i64 z.m.k, .int .i64 z.m.fr, .int .i64 z.m.tn, .int .i64 z.m.op, .int .i64 z.m.fo, .string z.m.key, .int .i64 z.m.bk, .slice z.m.ea z.m.el z.m.ec, .slice z.m.da z.m.dl z.m.dc, .slice z.m.ma z.m.ml z.m.mc, .int .i64 z.base] 74)) := (Off.refl _ wr).alloc _
   have C9 : Cel wr.heap.size 74 #[.int .i64 z.m.k, .int .i64 z.m.fr, .int .i64 z.m.tn, .int .i64 z.m.op, .int .i64 z.m.fo, .string z.m.key, .int .i64 z.m.bk, .slice z.m.ea z.m.el z.m.ec, .slice z.m.da z.m.dl z.m.dc, .slice z.m.ma z.m.ml z.m.mc, .int .i64 z.base] (wr.alloc (.cells #[.int .i64 z.m.k, .int .i64 z.m.fr, .int .i64 z.m.tn, .int .i64 z.m.op, .int .i64 z.m.fo, .string z.m.key, .int .i64 z.m.bk, .slice z.m.ea z.m.el z.m.ec, .slice z.m.da z.m.dl z.m.dc, .slice z.m.ma z.m.ml z.m.mc, .int .i64 z.base] 74)) := Cel.new wr _ _
   generalize hv : wr.alloc (.cells #[.int .i64 z.m.k, .int .i64 z.m.fr, .int .i64 z.m.tn, .int .i64 z.m.op, .int .i64 z.m.fo, .string z.m.key, .int .i64 z.m.bk, .slice z.m.ea z.m.el z.m.ec, .slice z.m.da z.m.dl z.m.dc, .slice z.m.ma z.m.ml z.m.mc, .int .i64 z.base] 74) = w9 at O9 C9 ⊢
   have HO9 : Hid _ := HO.out.trans O9 (fun _ _ h => h)
   clear hv O9 x0 x1 x2 x3 x4 x5 x6 x7 x8 x9 x10 HO
   generalize wr.heap.size = q9 at C9 ⊢
   have v10 : w9.cell? ⟨q9, 10, none⟩ = some (.int .i64 z.base) := C9.cell 10
   clear C9
   have c0 : w9.cell? ⟨q, 0, none⟩ = some (.slice (some ⟨g, 0, none⟩) xs.length cap) := (HP0.out.off HO9.out (fun h => h)).cell 0
   by_cases hp : p < 0
   ·have dp : decide (p < 0) = true := decide_eq_true hp
    have HT2 : Hid (Top xs (i + 1) (i : Int)) := by
     refine HT.out.new HZ.out ?_
     rcases HT.out with ⟨h, -⟩ | ⟨j, x, e, -⟩
     ·exact .inl h
     ·omega
    go_quiet (fail)
    go_wp2_with fail
    go_roundw
    case rel => exact ⟨i + 1, (i : Int), by go_num, by go_num, by omega, HT2.out, offN HO9.out _⟩
    case measure => simp [intOf]; omega
   ·have dp : decide (p < 0) = false := decide_eq_false hp
    obtain ⟨j, x, rfl, hj, hx⟩ : ∃ (j : Nat) (x : Wt), p = (j : Int) ∧ j < i ∧ xs[j]? = some x := by
     rcases HT.out with ⟨-, h⟩ | ⟨j, x, e, hj, hx, -⟩
     ·omega
     ·exact ⟨j, x, e, hj, hx⟩
    have hjl : j < xs.length := by omega
    obtain ⟨w_0, w_1, w_2, w_3, w_4, w_5, w_6, w_7, w_8, w_9, w_10⟩ := HXC.out _ HO9.out j x hx
    by_cases hg : x.base < z.base
    ·have dg : decide (z.base > x.base) = true := decide_eq_true hg
     have dg2 : decide (x.base < z.base) = true := decide_eq_true hg
     have HT2 : Hid (Top xs (i + 1) (i : Int)) := HT.out.new HZ.out (.inr ⟨j, x, rfl, hx, hg⟩)
     go_quiet (fail)
     go_wp2_with fail
     go_roundw
     case rel => exact ⟨i + 1, (i : Int), by go_num, by go_num, by omega, HT2.out, offN HO9.out _⟩
     case measure => simp [intOf]; omega
    ·have dg : decide (z.base > x.base) = false := decide_eq_false hg
     have dg2 : decide (x.base < z.base) = false := decide_eq_false hg
     have HT2 : Hid (Top xs (i + 1) (j : Int)) := HT.out.old HZ.out hx hg
     go_quiet (fail)
     go_wp2_with fail
     go_roundw
     case rel => exact ⟨i + 1, (j : Int), by go_num, rfl, by omega, HT2.out, offN HO9.out _⟩
     case measure => simp [intOf]; omega
  ·obtain rfl : i = xs.length := by omega
   have hpj := HT.out.first HL4.out (fun i x y hx hy => (HH5.out i x y hx hy).1) HBB.out.1 HBB.out.2
   obtain ⟨j, hj⟩ : ∃ j, j = l1.length := ⟨_, rfl⟩
   rw [← hj] at hpj
   subst hpj
   have hlen : xs.length = l1.length + (l2.length + 1) := by rw [HL4.out]; simp
   have hjl : j < xs.length := by omega
   obtain ⟨x, hx⟩ : ∃ x, xs[j]? = some x := ⟨_, List.getElem?_eq_getElem hjl⟩
   have hxy : (l1 ++ (k, b) :: l2)[j]? = some (k, b) := by rw [hj, List.getElem?_append_right (Nat.le_refl _), Nat.sub_self]; rfl
   have HRD : Hid (Rd N k x.m W) := (HH5.out j x _ hx hxy).2
   obtain ⟨x0, x1, x2, x3, x4, x5, x6, x7, x8, x9, x10⟩ := HXC.out _ HO.out j x hx
   have HLN : Hid (xs.length = l1.length + (l2.length + 1) ∧ j = l1.length) := ⟨hlen, hj⟩
   clear c0 hlen hj hlt hi
   have c0 : wr.cell? ⟨q, 0, none⟩ = some (.slice (some ⟨g, 0, none⟩) xs.length cap) := (HP0.out.off HO.out (fun h => h)).cell 0
   have dj : decide ((j : Int) < 0) = false := decide_eq_false (by omega)
   go_upto_region 11 with fail
   have O10 : Off (fun _ => False) wr (wr.alloc (.cells #[.int .i64 x.m.k, .int .i64 x.m.fr, .int .i64 x.m.tn, .int .i64 x.m.op, .int .i64 x.m.fo, .string x.m.key, .int .i64 x.m.bk, .slice x.m.ea x.m.el x.m.ec, .slice x.m.da x.m.dl x.m.dc, .slice x.m.ma x.m.ml x.m.mc] 31)) := (Off.refl _ wr).alloc _
   have C10 : Cel wr.heap.size 31 #[.int .i64 x.m.k, .int .i64 x.m.fr, .int .i64 x.m.tn, .int .i64 x.m.op, .int .i64 x.m.fo, .string x.m.key, .int .i64 x.m.bk, .slice x.m.ea x.m.el x.m.ec, .slice x.m.da x.m.dl x.m.dc, .slice x.m.ma x.m.ml x.m.mc] (wr.alloc (.cells #[.int .i64 x.m.k, .int .i64 x.m.fr, .int .i64 x.m.tn, .int .i64 x.m.op, .int .i64 x.m.fo, .string x.m.key, .int .i64 x.m.bk, .slice x.m.ea x.m.el x.m.ec, .slice x.m.da x.m.dl x.m.dc, .slice x.m.ma x.m.ml x.m.mc] 31)) := Cel.new wr _ _
   generalize hv : wr.alloc (.cells #[.int .i64 x.m.k, .int .i64 x.m.fr, .int .i64 x.m.tn, .int .i64 x.m.op, .int .i64 x.m.fo, .string x.m.key, .int .i64 x.m.bk, .slice x.m.ea x.m.el x.m.ec, .slice x.m.da x.m.dl x.m.dc, .slice x.m.ma x.m.ml x.m.mc] 31) = V at O10 C10 ⊢
   have HO10 : Hid _ := HO.out.trans O10 (fun _ _ h => h)
   have hqr : q < wr.heap.size := Nat.lt_of_lt_of_le (HP0.out.lt) HO.out.size
   have hbr : b2 < wr.heap.size := Nat.lt_of_lt_of_le HC0.out.lt HO.out.size
   clear hv O10 x0 x1 x2 x3 x4 x5 x6 x7 x8 x9 x10 HO c0
   generalize wr.heap.size = q7 at C10 hqr hbr ⊢
   have HC7 : Hid _ := C10
   have HP : Hid _ := HP0.out.off HO10.out (fun h => h)
   have HOW : Hid _ := HOW0.out.off HO10.out (fun _ _ _ h => h)
   have HR : Hid _ := HR0.out.free HO10.out
   have HC : Hid _ := HC0.out.off HO10.out (fun h => h)
   have HVO : Hid _ := HVO0.out.trans HO10.out (fun _ _ h => h)
   clear C10 HP0 HOW0 HR0 HC0 HVO0 HO10 HXC HT hx hxy
   have hs1 := slhI g xs.length cap j (by omega)
   obtain ⟨o, hs2, ho⟩ := sllI g xs.length cap (j + 1) ((j : Int) + 1) (by simp) (by omega)
   have hwj : IntKind.i64.wrap ((j : Int) + 1) = (j : Int) + 1 := by rw [IntKind.wrap_i64]; omega
   have b1 : (j : Int) + 1 ≤ (xs.length : Int) := by omega
   have HTK : Hid (∀ v, Off (fun _ => False) V v → Wns v (some ⟨g, 0, none⟩) cap (xs.take j)) := fun v hv => by
    have hw := (HOW.out.off hv (fun _ _ _ h => h)).wnsI
    refine ⟨by rw [List.length_take]; have := hw.len; omega, hw.bound, fun i y hy => hw.at_ i y ?_⟩
    rw [List.getElem?_take] at hy
    split at hy
    ·exact hy
    ·simp at hy
   have HDR : Hid (∀ v, Off (fun _ => False) V v → Wns v (some ⟨g, o, none⟩) (cap - (j + 1)) (xs.drop (j + 1))) := fun v hv => by
    have hw := (HOW.out.off hv (fun _ _ _ h => h)).wnsI
    refine ⟨by rw [List.length_drop]; have := hw.len; omega, by have := hw.bound; omega, fun i y hy => ?_⟩
    rw [List.getElem?_drop] at hy
    obtain ⟨hl, -⟩ := List.getElem?_eq_some_iff.1 hy
    obtain ⟨b', off, e, hat⟩ := hw.at_ (j + 1 + i) y hy
    simp only [Option.some.injEq, Addr.mk.injEq, and_true] at e
    obtain ⟨rfl, rfl⟩ := e
    refine ⟨g, o, rfl, ?_⟩
    rw [ho (by omega), show (j + 1) * 11 + i * 11 = 0 + (j + 1 + i) * 11 by omega]
    exact hat
   have HI : Hid (∀ (i : Nat) (x : Wt) (y : Int × Int), ([] ++ xs.take j ++ xs.drop (j + 1))[i]? = some x → (l1 ++ l2)[i]? = some y → x.base = y.2 + t ∧ Rd N y.1 x.m W) := fun i z y hz hy => by
    have hj := HLN.out.2
    have hlen := HLN.out.1
    rw [List.nil_append] at hz
    have htl : (xs.take j).length = j := by rw [List.length_take]; omega
    by_cases hi : i < j
    ·rw [List.getElem?_append_left (by omega), List.getElem?_take_of_lt hi] at hz
     rw [List.getElem?_append_left (by omega)] at hy
     exact HH5.out i z y hz (by rw [List.getElem?_append_left (by omega)]; exact hy)
    ·rw [List.getElem?_append_right (by omega), htl, List.getElem?_drop] at hz
     rw [List.getElem?_append_right (by omega)] at hy
     refine HH5.out (i + 1) z y (by rw [show i + 1 = j + 1 + (i - j) by omega]; exact hz) ?_
     rw [List.getElem?_append_right (by omega), show i + 1 - l1.length = (i - l1.length) + 1 by omega, List.getElem?_cons_succ]
     exact hy
   have HWT : Hid (∀ y ∈ l1 ++ l2, -1000000000 ≤ y.2 ∧ y.2 ≤ 12) := fun y hy => HW0.out y (by
    rcases List.mem_append.1 hy with hy | hy
    ·exact List.mem_append.2 (.inl hy)
    ·exact List.mem_append.2 (.inr (List.mem_cons.2 (.inr hy))))
   clear ho HH5 HL4
   refine wp_region_held_drew (S := fun w' => Off (fun c => c = q) V w') (by kernel_rfl) ((Off.refl _ V).drew) (fun hS => ?_)
   refine take_at (i := 0) 46 (v := .pointer (some ⟨q, 0, none⟩)) rfl rfl (by kernel_rfl) (by kernel_rfl) (by kernel_rfl) (fun _ _ _ h => h) (Or.inl ⟨by rfl, fun w' hw' => by go_simp⟩) hS ?_
   simp only [Act.put, lsA, lsZ, lsS]
   refine take_at (i := 1) 47 (v := .pointer (some ⟨q, 0, none⟩)) rfl rfl (by kernel_rfl) (by kernel_rfl) (by kernel_rfl) (fun _ _ _ h => h) (Or.inl ⟨by rfl, fun w' hw' => by go_simp⟩) hS ?_
   simp only [Act.put, lsA, lsZ, lsS]
   refine take_at (i := 2) 48 (v := .pointer (some ⟨q, 0, none⟩)) rfl rfl (by kernel_rfl) (by kernel_rfl) (by kernel_rfl) (fun _ _ _ h => h) (Or.inl ⟨by rfl, fun w' hw' => by go_simp⟩) hS ?_
   simp only [Act.put, lsA, lsZ, lsS]
   refine take_at (i := 3) 49 (v := .pointer (some ⟨q, 0, none⟩)) rfl rfl (by kernel_rfl) (by kernel_rfl) (by kernel_rfl) (fun _ _ _ h => h) (Or.inl ⟨by rfl, fun w' hw' => by go_simp⟩) hS ?_
   simp only [Act.put, lsA, lsZ, lsS]
   refine take_at (i := 5) 51 (v := .int .i64 (j : Int)) rfl rfl (by kernel_rfl) (by kernel_rfl) (by kernel_rfl) (fun _ _ _ h => h) (Or.inl ⟨by rfl, fun w' hw' => by go_simp⟩) hS ?_
   simp only [Act.put, lsA, lsZ, lsS]
   refine take_at (i := 8) 54 (v := .pointer (some ⟨q, 0, none⟩)) rfl rfl (by kernel_rfl) (by kernel_rfl) (by kernel_rfl) (fun _ _ _ h => h) (Or.inl ⟨by rfl, fun w' hw' => by go_simp⟩) hS ?_
   simp only [Act.put, lsA, lsZ, lsS]
   refine take_at (i := 9) 55 (v := .pointer (some ⟨q, 0, none⟩)) rfl rfl (by kernel_rfl) (by kernel_rfl) (by kernel_rfl) (fun _ _ _ h => h) (Or.inl ⟨by rfl, fun w' hw' => by go_simp⟩) hS ?_
   simp only [Act.put, lsA, lsZ, lsS]
   refine take_at (i := 10) 56 (v := .pointer (some ⟨q, 0, none⟩)) rfl rfl (by kernel_rfl) (by kernel_rfl) (by kernel_rfl) (fun _ _ _ h => h) (Or.inl ⟨by rfl, fun w' hw' => by go_simp⟩) hS ?_
   simp only [Act.put, lsA, lsZ, lsS]
   refine take_at (i := 12) 58 (v := .int .i64 (j : Int)) rfl rfl (by kernel_rfl) (by kernel_rfl) (by kernel_rfl) (fun _ _ _ h => h) (Or.inl ⟨by rfl, fun w' hw' => by go_simp⟩) hS ?_
   simp only [Act.put, lsA, lsZ, lsS]
   refine take_at (i := 13) 59 (v := .int .i64 ((j : Int) + 1)) rfl rfl (by kernel_rfl) (by kernel_rfl) (by kernel_rfl) (fun _ _ _ h => h) (Or.inl ⟨by rfl, fun w' hw' => by go_simp; try exact hwj⟩) hS ?_
   simp only [Act.put, lsA, lsZ, lsS]
   refine wpAnyH_ready (rs := [4, 11]) (by kernel_rfl) (by simp) ?_
   refine AllReadyH.cons rfl (fun K' hK' => ?_) (AllReadyH.cons rfl (fun K' hK' => ?_) AllReadyH.nil)
   ·have c0 : World.cell? V.drew ⟨q, 0, none⟩ = some (.slice (some ⟨g, 0, none⟩) xs.length cap) := HP.out.drew.cell 0
    go_simp
    refine hK'.out _ _ hS (fun hS => ?_)
    clear hK' K' c0
    refine take_at (i := 6) 52 (v := .slice (some ⟨g, 0, none⟩) j cap) rfl rfl (by kernel_rfl) (by kernel_rfl) (by kernel_rfl) (fun _ _ _ h => h) (Or.inl ⟨by rfl, fun w' hw' => by have := hs1 w'; go_simp⟩) hS ?_
    simp only [Act.put, lsA, lsZ, lsS]
    refine wpAnyH_ready (rs := [7, 11]) (by kernel_rfl) (by simp) ?_
    refine AllReadyH.cons rfl (fun K' hK' => ?_) (AllReadyH.cons rfl (fun K' hK' => ?_) AllReadyH.nil)
    ·obtain ⟨a1, c1, W1, hr, own1, o1, at1⟩ := app_runI (w := V.drew) (OwnG.nil _ _ _ _) (b := some ⟨g, 0, none⟩) (cb := cap) (k := xs.take j) (HTK.out V.drew ((Off.refl (fun _ => False) V).drew)) (fun e => by cases e) (by show 0 + (xs.take j).length ≤ _; rw [List.length_take]; omega) 41
     rw [show (xs.take j).length = j by rw [List.length_take]; omega, show ([] ++ xs.take j : List Wt).length = j by rw [List.nil_append, List.length_take]; omega] at hr
     refine wp_append_if rfl (.const (.slice none 0 0)) (.tmp 52) rfl rfl rfl hr 53 rfl ?_
     simp only [Act.put, lsA, lsZ, lsS]
     have o1 : Off (fun _ => False) V.drew W1 := o1.mono (fun _ _ h => by cases h)
     have HN1 : ∀ c, blk a1 = some c → V.heap.size ≤ c := fun c hc => by
      rcases at1 with e | e
      ·rw [e] at hc; cases hc
      ·rw [e] at hc
       have := Option.some.inj hc
       have hd : (V.drew).heap.size = V.heap.size := rfl
       omega
     refine hK'.out _ _ (hS.trans o1 (fun _ _ h => h.elim)) (fun hS => ?_)
     clear hK' K' hr
     refine wpAnyH_ready (rs := [11]) (by kernel_rfl) (by simp) ?_
     refine AllReadyH.cons rfl (fun K' hK' => ?_) AllReadyH.nil
     have c0 : World.cell? W1 ⟨q, 0, none⟩ = some (.slice (some ⟨g, 0, none⟩) xs.length cap) := (HP.out.off (((Off.refl (fun _ => False) V).drew).trans o1 (fun _ _ h => h)) (fun h => h)).cell 0
     go_simp
     refine hK'.out _ _ hS (fun hS => ?_)
     clear hK' K' c0
     refine take_at (i := 14) 60 (v := .slice (some ⟨g, o, none⟩) (xs.length - (j + 1)) (cap - (j + 1))) rfl rfl (by kernel_rfl) (by kernel_rfl) (by kernel_rfl) (fun _ _ _ h => h) (Or.inl ⟨by rfl, fun w' hw' => by have := hs2 w'; go_simp⟩) hS ?_
     simp only [Act.put, lsA, lsZ, lsS]
     refine wpAnyH_ready (rs := [15]) (by kernel_rfl) (by simp) ?_
     refine AllReadyH.cons rfl (fun K' hK' => ?_) AllReadyH.nil
     have hov : Off (fun _ => False) V W1 := ((Off.refl (fun _ => False) V).drew).trans o1 (fun _ _ h => h)
     obtain ⟨a2, c2, W3, hr, own3, o3, at3⟩ := app_runI (w := W1) own1 (b := some ⟨g, o, none⟩) (cb := cap - (j + 1)) (k := xs.drop (j + 1)) (HDR.out W1 hov) (fun e => by cases e) (by simp; omega) 41
     rw [show (([] : List Wt) ++ xs.take j).length = j by simp; omega, show (xs.drop (j + 1)).length = xs.length - (j + 1) by simp] at hr
     refine wp_append_if rfl (.tmp 53) (.tmp 60) rfl rfl rfl hr 61 rfl ?_
     simp only [Act.put, lsA, lsZ, lsS]
     have hn1 : ∀ c, blk a1 = some c → V.heap.size ≤ c := HN1
     have o3f : Off (fun _ => False) V W3 := hov.trans o3 (fun i hi e => by have := hn1 i e; omega)
     have hS : Off (fun c => c = q) V W3 := o3f.mono (fun _ _ h => h.elim)
     have hn2 : ∀ c, blk a2 = some c → V.heap.size ≤ c := fun c hc => by
      rcases at3 with e | e
      ·exact hn1 c (e ▸ hc)
      ·rw [e] at hc
       have := Option.some.inj hc
       have := hov.size
       omega
     refine hK'.out _ _ hS (fun hS => ?_)
     clear hK' K' hr
     refine take_at (i := 16) 62 (v := .pointer (some ⟨q, 0, none⟩)) rfl rfl (by kernel_rfl) (by kernel_rfl) (by kernel_rfl) (fun _ _ _ h => h) (Or.inl ⟨by rfl, fun w' hw' => by go_simp⟩) hS ?_
     simp only [Act.put, lsA, lsZ, lsS]
     refine take_at (i := 17) 63 (v := .pointer (some ⟨q, 0, none⟩)) rfl rfl (by kernel_rfl) (by kernel_rfl) (by kernel_rfl) (fun _ _ _ h => h) (Or.inl ⟨by rfl, fun w' hw' => by go_simp⟩) hS ?_
     simp only [Act.put, lsA, lsZ, lsS]
     have HP3 : Hid _ := HP.out.off o3f (fun h => h)
     have fz := HP3.out.free 0
     have c0 := HP3.out.cell 0
     refine wpAnyH_ready (rs := [18]) (by kernel_rfl) (by simp) ?_
     refine AllReadyH.cons rfl (fun K' hK' => ?_) AllReadyH.nil
     go_simp
     have hF := rq_end HR.out o3f (l' := l1 ++ l2) (t' := t) own3 hn2 (by have := HLN.out; simp; omega) HI.out (by have g1 := HFW.out; have g2 : (l1 ++ (k, b) :: l2).length = l1.length + (l2.length + 1) := (by simp); rw [List.length_append]; omega) HWT.out (n := min j xs.length + (xs.length - (j + 1))) (by simp)
     have HF : Hid _ := hF
     refine hK'.out _ _ hF.2.2 (fun _ => ?_)
     clear hK' K' hF
     refine wpAnyH_done (by kernel_rfl) ?_ _
     clear fz c0
     generalize hv4 : W3.setCell ⟨q, 0, none⟩ (.slice a2 (min j xs.length + (xs.length - (j + 1))) c2) = W4 at HF ⊢
     clear hv4 HP3 hS
     have HN2 : Hid (¬ blk a2 = some b2) := fun e => by have g1 := hn2 b2 e; have g2 := HC7.out.lt; omega
     have HC4 : Hid _ := HC.out.off HF.out.2.2 (fun e => hbq e)
     have HC74 : Hid _ := HC7.out.off HF.out.2.2 (fun e => by have e : q7 = q := e; omega)
     have fz := HC4.out.free
     obtain ⟨x0, x1, x2, x3, x4, x5, x6, x7, x8, x9⟩ := celw10 HC74.out
     obtain ⟨y0, y1, y2, y3, y4, y5, y6, y7, y8, y9⟩ := celw10 HC4.out
     go_wp2_with fail
     refine bodyPost_ret (results_msg2 (x := x.m) rfl rfl rfl (HC4.out.wrwAll (vs := mcs x.m) rfl)) rfl ?_
     have ow := off_wrw (g := b2) (o := 0) (us := mcs x.m) (Off.refl (fun c => c = b2) W4) (.inl rfl)
     have hWB := HWB.out
     refine ⟨x.m, fun c => c = q ∨ blk a2 = some c, rfl, HRD.out, HF.out.1.keep ow (fun c hc e => ?_) (fun c e => by have e : c = b2 := e; have := HWW.out; omega), fun c hc => (HF.out.2.1 c hc).imp id (fun e => by have := HVO.out.size; omega), ?_⟩
     ·have e : c = b2 := e
      subst e
      exact hc.elim hbq HN2.out
     ·exact ((HVO.out.mono (E := fun c => c = q ∨ c = b2) (fun _ _ h => h.elim)).trans ((HF.out.2.2.mono (E := fun c => c = q ∨ c = b2) (fun _ _ e => .inl e)).trans (ow.mono (E := fun c => c = q ∨ c = b2) (fun _ _ e => .inr e)) (fun _ _ e => e)) (fun _ _ e => e)).mono (fun c hc e => e.elim id (fun e => by omega))
    ·have c0 : World.cell? V.drew ⟨q, 0, none⟩ = some (.slice (some ⟨g, 0, none⟩) xs.length cap) := HP.out.drew.cell 0
     go_simp
     refine hK'.out _ _ hS (fun hS => ?_)
     clear hK' K' c0
     refine take_at (i := 14) 60 (v := .slice (some ⟨g, o, none⟩) (xs.length - (j + 1)) (cap - (j + 1))) rfl rfl (by kernel_rfl) (by kernel_rfl) (by kernel_rfl) (fun _ _ _ h => h) (Or.inl ⟨by rfl, fun w' hw' => by have := hs2 w'; go_simp⟩) hS ?_
     simp only [Act.put, lsA, lsZ, lsS]
     refine wpAnyH_ready (rs := [7]) (by kernel_rfl) (by simp) ?_
     refine AllReadyH.cons rfl (fun K' hK' => ?_) AllReadyH.nil
     obtain ⟨a1, c1, W1, hr, own1, o1, at1⟩ := app_runI (w := V.drew) (OwnG.nil _ _ _ _) (b := some ⟨g, 0, none⟩) (cb := cap) (k := xs.take j) (HTK.out V.drew ((Off.refl (fun _ => False) V).drew)) (fun e => by cases e) (by show 0 + (xs.take j).length ≤ _; rw [List.length_take]; omega) 41
     rw [show (xs.take j).length = j by rw [List.length_take]; omega, show ([] ++ xs.take j : List Wt).length = j by rw [List.nil_append, List.length_take]; omega] at hr
     refine wp_append_if rfl (.const (.slice none 0 0)) (.tmp 52) rfl rfl rfl hr 53 rfl ?_
     simp only [Act.put, lsA, lsZ, lsS]
     have o1 : Off (fun _ => False) V.drew W1 := o1.mono (fun _ _ h => by cases h)
     have HN1 : ∀ c, blk a1 = some c → V.heap.size ≤ c := fun c hc => by
      rcases at1 with e | e
      ·rw [e] at hc; cases hc
      ·rw [e] at hc
       have := Option.some.inj hc
       have hd : (V.drew).heap.size = V.heap.size := rfl
       omega
     refine hK'.out _ _ (hS.trans o1 (fun _ _ h => h.elim)) (fun hS => ?_)
     clear hK' K' hr
     refine wpAnyH_ready (rs := [15]) (by kernel_rfl) (by simp) ?_
     refine AllReadyH.cons rfl (fun K' hK' => ?_) AllReadyH.nil
     have hov : Off (fun _ => False) V W1 := ((Off.refl (fun _ => False) V).drew).trans o1 (fun _ _ h => h)
     obtain ⟨a2, c2, W3, hr, own3, o3, at3⟩ := app_runI (w := W1) own1 (b := some ⟨g, o, none⟩) (cb := cap - (j + 1)) (k := xs.drop (j + 1)) (HDR.out W1 hov) (fun e => by cases e) (by simp; omega) 41
     rw [show (([] : List Wt) ++ xs.take j).length = j by simp; omega, show (xs.drop (j + 1)).length = xs.length - (j + 1) by simp] at hr
     refine wp_append_if rfl (.tmp 53) (.tmp 60) rfl rfl rfl hr 61 rfl ?_
     simp only [Act.put, lsA, lsZ, lsS]
     have hn1 : ∀ c, blk a1 = some c → V.heap.size ≤ c := HN1
     have o3f : Off (fun _ => False) V W3 := hov.trans o3 (fun i hi e => by have := hn1 i e; omega)
     have hS : Off (fun c => c = q) V W3 := o3f.mono (fun _ _ h => h.elim)
     have hn2 : ∀ c, blk a2 = some c → V.heap.size ≤ c := fun c hc => by
      rcases at3 with e | e
      ·exact hn1 c (e ▸ hc)
      ·rw [e] at hc
       have := Option.some.inj hc
       have := hov.size
       omega
     refine hK'.out _ _ hS (fun hS => ?_)
     clear hK' K' hr
     refine take_at (i := 16) 62 (v := .pointer (some ⟨q, 0, none⟩)) rfl rfl (by kernel_rfl) (by kernel_rfl) (by kernel_rfl) (fun _ _ _ h => h) (Or.inl ⟨by rfl, fun w' hw' => by go_simp⟩) hS ?_
     simp only [Act.put, lsA, lsZ, lsS]
     refine take_at (i := 17) 63 (v := .pointer (some ⟨q, 0, none⟩)) rfl rfl (by kernel_rfl) (by kernel_rfl) (by kernel_rfl) (fun _ _ _ h => h) (Or.inl ⟨by rfl, fun w' hw' => by go_simp⟩) hS ?_
     simp only [Act.put, lsA, lsZ, lsS]
     have HP3 : Hid _ := HP.out.off o3f (fun h => h)
     have fz := HP3.out.free 0
     have c0 := HP3.out.cell 0
     refine wpAnyH_ready (rs := [18]) (by kernel_rfl) (by simp) ?_
     refine AllReadyH.cons rfl (fun K' hK' => ?_) AllReadyH.nil
     go_simp
     have hF := rq_end HR.out o3f (l' := l1 ++ l2) (t' := t) own3 hn2 (by have := HLN.out; simp; omega) HI.out (by have g1 := HFW.out; have g2 : (l1 ++ (k, b) :: l2).length = l1.length + (l2.length + 1) := (by simp); rw [List.length_append]; omega) HWT.out (n := min j xs.length + (xs.length - (j + 1))) (by simp)
     have HF : Hid _ := hF
     refine hK'.out _ _ hF.2.2 (fun _ => ?_)
     clear hK' K' hF
     refine wpAnyH_done (by kernel_rfl) ?_ _
     clear fz c0
     generalize hv4 : W3.setCell ⟨q, 0, none⟩ (.slice a2 (min j xs.length + (xs.length - (j + 1))) c2) = W4 at HF ⊢
     clear hv4 HP3 hS
     have HN2 : Hid (¬ blk a2 = some b2) := fun e => by have g1 := hn2 b2 e; have g2 := HC7.out.lt; omega
     have HC4 : Hid _ := HC.out.off HF.out.2.2 (fun e => hbq e)
     have HC74 : Hid _ := HC7.out.off HF.out.2.2 (fun e => by have e : q7 = q := e; omega)
     have fz := HC4.out.free
     obtain ⟨x0, x1, x2, x3, x4, x5, x6, x7, x8, x9⟩ := celw10 HC74.out
     obtain ⟨y0, y1, y2, y3, y4, y5, y6, y7, y8, y9⟩ := celw10 HC4.out
     go_wp2_with fail
     refine bodyPost_ret (results_msg2 (x := x.m) rfl rfl rfl (HC4.out.wrwAll (vs := mcs x.m) rfl)) rfl ?_
     have ow := off_wrw (g := b2) (o := 0) (us := mcs x.m) (Off.refl (fun c => c = b2) W4) (.inl rfl)
     have hWB := HWB.out
     refine ⟨x.m, fun c => c = q ∨ blk a2 = some c, rfl, HRD.out, HF.out.1.keep ow (fun c hc e => ?_) (fun c e => by have e : c = b2 := e; have := HWW.out; omega), fun c hc => (HF.out.2.1 c hc).imp id (fun e => by have := HVO.out.size; omega), ?_⟩
     ·have e : c = b2 := e
      subst e
      exact hc.elim hbq HN2.out
     ·exact ((HVO.out.mono (E := fun c => c = q ∨ c = b2) (fun _ _ h => h.elim)).trans ((HF.out.2.2.mono (E := fun c => c = q ∨ c = b2) (fun _ _ e => .inl e)).trans (ow.mono (E := fun c => c = q ∨ c = b2) (fun _ _ e => .inr e)) (fun _ _ e => e)) (fun _ _ e => e)).mono (fun c hc e => e.elim id (fun e => by omega))
   ·have c0 : World.cell? V.drew ⟨q, 0, none⟩ = some (.slice (some ⟨g, 0, none⟩) xs.length cap) := HP.out.drew.cell 0
    go_simp
    refine hK'.out _ _ hS (fun hS => ?_)
    clear hK' K' c0
    refine take_at (i := 14) 60 (v := .slice (some ⟨g, o, none⟩) (xs.length - (j + 1)) (cap - (j + 1))) rfl rfl (by kernel_rfl) (by kernel_rfl) (by kernel_rfl) (fun _ _ _ h => h) (Or.inl ⟨by rfl, fun w' hw' => by have := hs2 w'; go_simp⟩) hS ?_
    simp only [Act.put, lsA, lsZ, lsS]
    refine wpAnyH_ready (rs := [4]) (by kernel_rfl) (by simp) ?_
    refine AllReadyH.cons rfl (fun K' hK' => ?_) AllReadyH.nil
    have c0 : World.cell? V.drew ⟨q, 0, none⟩ = some (.slice (some ⟨g, 0, none⟩) xs.length cap) := HP.out.drew.cell 0
    go_simp
    refine hK'.out _ _ hS (fun hS => ?_)
    clear hK' K' c0
    refine take_at (i := 6) 52 (v := .slice (some ⟨g, 0, none⟩) j cap) rfl rfl (by kernel_rfl) (by kernel_rfl) (by kernel_rfl) (fun _ _ _ h => h) (Or.inl ⟨by rfl, fun w' hw' => by have := hs1 w'; go_simp⟩) hS ?_
    simp only [Act.put, lsA, lsZ, lsS]
    refine wpAnyH_ready (rs := [7]) (by kernel_rfl) (by simp) ?_
    refine AllReadyH.cons rfl (fun K' hK' => ?_) AllReadyH.nil
    obtain ⟨a1, c1, W1, hr, own1, o1, at1⟩ := app_runI (w := V.drew) (OwnG.nil _ _ _ _) (b := some ⟨g, 0, none⟩) (cb := cap) (k := xs.take j) (HTK.out V.drew ((Off.refl (fun _ => False) V).drew)) (fun e => by cases e) (by show 0 + (xs.take j).length ≤ _; rw [List.length_take]; omega) 41
    rw [show (xs.take j).length = j by rw [List.length_take]; omega, show ([] ++ xs.take j : List Wt).length = j by rw [List.nil_append, List.length_take]; omega] at hr
    refine wp_append_if rfl (.const (.slice none 0 0)) (.tmp 52) rfl rfl rfl hr 53 rfl ?_
    simp only [Act.put, lsA, lsZ, lsS]
    have o1 : Off (fun _ => False) V.drew W1 := o1.mono (fun _ _ h => by cases h)
    have HN1 : ∀ c, blk a1 = some c → V.heap.size ≤ c := fun c hc => by
     rcases at1 with e | e
     ·rw [e] at hc; cases hc
     ·rw [e] at hc
      have := Option.some.inj hc
      have hd : (V.drew).heap.size = V.heap.size := rfl
      omega
    refine hK'.out _ _ (hS.trans o1 (fun _ _ h => h.elim)) (fun hS => ?_)
    clear hK' K' hr
    refine wpAnyH_ready (rs := [15]) (by kernel_rfl) (by simp) ?_
    refine AllReadyH.cons rfl (fun K' hK' => ?_) AllReadyH.nil
    have hov : Off (fun _ => False) V W1 := ((Off.refl (fun _ => False) V).drew).trans o1 (fun _ _ h => h)
    obtain ⟨a2, c2, W3, hr, own3, o3, at3⟩ := app_runI (w := W1) own1 (b := some ⟨g, o, none⟩) (cb := cap - (j + 1)) (k := xs.drop (j + 1)) (HDR.out W1 hov) (fun e => by cases e) (by simp; omega) 41
    rw [show (([] : List Wt) ++ xs.take j).length = j by simp; omega, show (xs.drop (j + 1)).length = xs.length - (j + 1) by simp] at hr
    refine wp_append_if rfl (.tmp 53) (.tmp 60) rfl rfl rfl hr 61 rfl ?_
    simp only [Act.put, lsA, lsZ, lsS]
    have hn1 : ∀ c, blk a1 = some c → V.heap.size ≤ c := HN1
    have o3f : Off (fun _ => False) V W3 := hov.trans o3 (fun i hi e => by have := hn1 i e; omega)
    have hS : Off (fun c => c = q) V W3 := o3f.mono (fun _ _ h => h.elim)
    have hn2 : ∀ c, blk a2 = some c → V.heap.size ≤ c := fun c hc => by
     rcases at3 with e | e
     ·exact hn1 c (e ▸ hc)
     ·rw [e] at hc
      have := Option.some.inj hc
      have := hov.size
      omega
    refine hK'.out _ _ hS (fun hS => ?_)
    clear hK' K' hr
    refine take_at (i := 16) 62 (v := .pointer (some ⟨q, 0, none⟩)) rfl rfl (by kernel_rfl) (by kernel_rfl) (by kernel_rfl) (fun _ _ _ h => h) (Or.inl ⟨by rfl, fun w' hw' => by go_simp⟩) hS ?_
    simp only [Act.put, lsA, lsZ, lsS]
    refine take_at (i := 17) 63 (v := .pointer (some ⟨q, 0, none⟩)) rfl rfl (by kernel_rfl) (by kernel_rfl) (by kernel_rfl) (fun _ _ _ h => h) (Or.inl ⟨by rfl, fun w' hw' => by go_simp⟩) hS ?_
    simp only [Act.put, lsA, lsZ, lsS]
    have HP3 : Hid _ := HP.out.off o3f (fun h => h)
    have fz := HP3.out.free 0
    have c0 := HP3.out.cell 0
    refine wpAnyH_ready (rs := [18]) (by kernel_rfl) (by simp) ?_
    refine AllReadyH.cons rfl (fun K' hK' => ?_) AllReadyH.nil
    go_simp
    have hF := rq_end HR.out o3f (l' := l1 ++ l2) (t' := t) own3 hn2 (by have := HLN.out; simp; omega) HI.out (by have g1 := HFW.out; have g2 : (l1 ++ (k, b) :: l2).length = l1.length + (l2.length + 1) := (by simp); rw [List.length_append]; omega) HWT.out (n := min j xs.length + (xs.length - (j + 1))) (by simp)
    have HF : Hid _ := hF
    refine hK'.out _ _ hF.2.2 (fun _ => ?_)
    clear hK' K' hF
    refine wpAnyH_done (by kernel_rfl) ?_ _
    clear fz c0
    generalize hv4 : W3.setCell ⟨q, 0, none⟩ (.slice a2 (min j xs.length + (xs.length - (j + 1))) c2) = W4 at HF ⊢
    clear hv4 HP3 hS
    have HN2 : Hid (¬ blk a2 = some b2) := fun e => by have g1 := hn2 b2 e; have g2 := HC7.out.lt; omega
    have HC4 : Hid _ := HC.out.off HF.out.2.2 (fun e => hbq e)
    have HC74 : Hid _ := HC7.out.off HF.out.2.2 (fun e => by have e : q7 = q := e; omega)
    have fz := HC4.out.free
    obtain ⟨x0, x1, x2, x3, x4, x5, x6, x7, x8, x9⟩ := celw10 HC74.out
    obtain ⟨y0, y1, y2, y3, y4, y5, y6, y7, y8, y9⟩ := celw10 HC4.out
    go_wp2_with fail
    refine bodyPost_ret (results_msg2 (x := x.m) rfl rfl rfl (HC4.out.wrwAll (vs := mcs x.m) rfl)) rfl ?_
    have ow := off_wrw (g := b2) (o := 0) (us := mcs x.m) (Off.refl (fun c => c = b2) W4) (.inl rfl)
    have hWB := HWB.out
    refine ⟨x.m, fun c => c = q ∨ blk a2 = some c, rfl, HRD.out, HF.out.1.keep ow (fun c hc e => ?_) (fun c e => by have e : c = b2 := e; have := HWW.out; omega), fun c hc => (HF.out.2.1 c hc).imp id (fun e => by have := HVO.out.size; omega), ?_⟩
    ·have e : c = b2 := e
     subst e
     exact hc.elim hbq HN2.out
    ·exact ((HVO.out.mono (E := fun c => c = q ∨ c = b2) (fun _ _ h => h.elim)).trans ((HF.out.2.2.mono (E := fun c => c = q ∨ c = b2) (fun _ _ e => .inl e)).trans (ow.mono (E := fun c => c = q ∨ c = b2) (fun _ _ e => .inr e)) (fun _ _ e => e)) (fun _ _ e => e)).mono (fun c hc e => e.elim id (fun e => by omega))
end Go.Proofs.Ytmeclfgehpbjlaa
