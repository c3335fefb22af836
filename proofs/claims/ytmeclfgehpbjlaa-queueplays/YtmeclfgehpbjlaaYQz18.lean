/- Items of several texts. -/
import Derived.Test.YtmeclfgehpbjlaaYLaw10
import Derived.Test.YtmeclfgehpbjlaaYQy18
namespace Go.Proofs.Ytmeclfgehpbjlaa
set_option maxRecDepth 100000
open Go.RowKit
structure MsgAt (w : World) (m : Mg) (es : List E) (gs : List G) (ms : List (Int × Int)) : Prop where
 ens : Ens w m.ea m.ec es
 el : m.el = es.length
 dgs : Dgs w m.da m.dc gs
 dl : m.dl = gs.length
 mbs : RowD w m.ma m.mc ms
 ml : m.ml = ms.length
structure MsgSz (es : List E) (gs : List G) (ms : List (Int × Int)) : Prop where
 e : es.length ≤ 1000
 g : gs.length ≤ 1000
 m : ms.length ≤ 1000
 ev : ∀ x ∈ es, x.l.length * 48 ≤ 140737488355328
 gd : ∀ x ∈ gs, x.ds.length * 16 ≤ 140737488355328
theorem MsgAt.off {w w' : World} {m : Mg} {es : List E} {gs : List G} {ms : List (Int × Int)} (h : MsgAt w m es gs ms) (o : Off (fun _ => False) w w') : MsgAt w' m es gs ms := ⟨h.ens.off o, h.el, h.dgs.off o, h.dl, h.mbs.off o, h.ml⟩
theorem flw_set {α : Type} {cs : α → List Value} {size : Nat} (hcs : ∀ x, (cs x).length = size) {j : Nat} (hj : j < size) {u : Value} : ∀ {xs : List α} {n : Nat} {x y : α}, xs[n]? = some x → cs y = (cs x).set j u → (xs.set n y).flatMap cs = (xs.flatMap cs).set (n * size + j) u
 | [], n, x, y, h, _ => by simp at h
 | z :: xs, 0, x, y, h, hy => by
  simp at h
  subst h
  rw [List.set_cons_zero, List.flatMap_cons, List.flatMap_cons, hy, Nat.zero_mul, Nat.zero_add, List.set_append_left _ _ (by rw [hcs]; exact hj)]
 | z :: xs, n + 1, x, y, h, hy => by
  have ih := flw_set hcs hj (xs := xs) (n := n) (x := x) (y := y) (by simpa using h) hy
  rw [List.set_cons_succ, List.flatMap_cons, List.flatMap_cons, ih, List.set_append_right _ _ (by rw [hcs, Nat.succ_mul]; omega), hcs]
  congr 2
  rw [Nat.succ_mul]
  omega
theorem OwnG.setAt {α : Type} {e : TypeId} {size : Nat} {cs : α → List Value} (hcs : ∀ x, (cs x).length = size) {w : World} {g cap : Nat} {xs : List α} (own : OwnG e size cs w (some ⟨g, 0, none⟩) cap xs) {n j : Nat} {x y : α} {u : Value} (hx : xs[n]? = some x) (hj : j < size) (hy : cs y = (cs x).set j u) :
  OwnG e size cs (w.setCell ⟨g, n * size + j, none⟩ u) (some ⟨g, 0, none⟩) cap (xs.set n y) := by
 obtain ⟨g', cur, eg, hc, hl, hm, hs, ht⟩ := own.celw (by simp)
 simp only [Option.some.injEq, Addr.mk.injEq, and_true] at eg
 subst eg
 refine ownw_of hcs (hc.set (n * size + j) u) (by rw [List.length_set]; exact hl) hm (by rw [Array.size_setIfInBounds]; exact hs) ?_
 rw [List.length_set, Array.toList_setIfInBounds, flw_set hcs hj hx hy, ← ht, List.take_set]
theorem Ens.newsX {w : World} {a : Option Addr} {cap : Nat} {l : List E} (h : Ens w a cap l) : (a = none → l = []) ∧ ∀ ad, a = some ad → ∀ j u, (l.flatMap ecs)[j]? = some u → w.cell? (ad.add j) = some u := by
 refine ⟨fun e => ?_, fun ad e j u hj => ?_⟩
 ·cases l with
  | nil => rfl
  | cons v l =>
   obtain ⟨b, off, e1, -⟩ := h.at_ 0 v rfl
   rw [e] at e1
   cases e1
 ·obtain ⟨i, r, x, hx, rfl, hu⟩ := flw_inv ecs_len hj
  obtain ⟨b, off, e1, h1, -⟩ := h.at_ i x hx
  rw [e] at e1
  simp only [Option.some.injEq] at e1
  subst e1
  rw [add_lit, ← Nat.add_assoc]
  exact h1 r u hu
theorem Dgs.newsX {w : World} {a : Option Addr} {cap : Nat} {l : List G} (h : Dgs w a cap l) : (a = none → l = []) ∧ ∀ ad, a = some ad → ∀ j u, (l.flatMap gcs)[j]? = some u → w.cell? (ad.add j) = some u := by
 refine ⟨fun e => ?_, fun ad e j u hj => ?_⟩
 ·cases l with
  | nil => rfl
  | cons v l =>
   obtain ⟨b, off, e1, -⟩ := h.at_ 0 v rfl
   rw [e] at e1
   cases e1
 ·obtain ⟨i, r, x, hx, rfl, hu⟩ := flw_inv gcs_len hj
  obtain ⟨b, off, e1, h1, -⟩ := h.at_ i x hx
  rw [e] at e1
  simp only [Option.some.injEq] at e1
  subst e1
  rw [add_lit, ← Nat.add_assoc]
  exact h1 r u hu
theorem RowD.newsX {w : World} {a : Option Addr} {cap : Nat} {l : List (Int × Int)} (h : RowD w a cap l) : (a = none → l = []) ∧ ∀ ad, a = some ad → ∀ j u, (l.flatMap dcs)[j]? = some u → w.cell? (ad.add j) = some u := by
 refine ⟨fun e => ?_, fun ad e j u hj => ?_⟩
 ·cases l with
  | nil => rfl
  | cons v l =>
   obtain ⟨b, off, e1, -⟩ := h.at_ 0 v rfl
   rw [e] at e1
   cases e1
 ·obtain ⟨i, r, x, hx, rfl, hu⟩ := flw_inv dcs_len hj
  obtain ⟨b, off, e1, h1, h2⟩ := h.at_ i x hx
  rw [e] at e1
  simp only [Option.some.injEq] at e1
  subst e1
  rw [add_lit, ← Nat.add_assoc]
  match r, hu with
  | 0, hu => simp [dcs] at hu; rw [← hu]; exact h1
  | 1, hu => simp [dcs] at hu; rw [← hu]; exact h2
  | r + 2, hu => simp [dcs] at hu
theorem OwnG.rowX {e : TypeId} {w : World} {a : Option Addr} {cap : Nat} {ds : List (Int × Int)} (h : OwnG e 2 dcs w a cap ds) : RowD w a cap ds := by
 refine ⟨?_, ?_, fun i d hi => ?_⟩
 ·rcases h.row.2 with ⟨hv, h0⟩ | ⟨g, c, cur, hv, hb, hh, hc, -⟩
  ·omega
  ·simp only [Value.slice.injEq] at hv
   obtain ⟨-, -, rfl⟩ := hv
   exact hc
 ·rcases h.row.2 with ⟨hv, h0⟩ | ⟨g, c, cur, hv, hb, hh, hc, hm, -⟩
  ·simp only [Value.slice.injEq] at hv
   omega
  ·simp only [Value.slice.injEq] at hv
   obtain ⟨-, -, rfl⟩ := hv
   unfold maxLen at hm
   omega
 ·obtain ⟨g, rfl, hc⟩ := h.at_ dcs_len hi
  refine ⟨g, 0, rfl, ?_, ?_⟩
  ·have := hc 0 _ rfl
   simpa using this
  ·have := hc 1 _ rfl
   simpa using this
theorem set_mem {α : Type} {l : List α} {n : Nat} {x y : α} {P : α → Prop} (hx : l[n]? = some x) (hP : ∀ i z, i < n → l[i]? = some z → P z) (hy : P y) : ∀ i z, i < n + 1 → (l.set n y)[i]? = some z → P z := by
 intro i z hi hz
 by_cases e : n = i
 ·subst e
  obtain ⟨hlt, -⟩ := List.getElem?_eq_some_iff.1 hx
  rw [List.getElem?_set_self hlt] at hz
  simp only [Option.some.injEq] at hz
  rw [← hz]
  exact hy
 ·rw [List.getElem?_set_ne e] at hz
  exact hP i z (by omega) hz
theorem set_rest {α : Type} {l k : List α} {n : Nat} {y : α} (h : ∀ i, n ≤ i → k[i]? = l[i]?) : ∀ i, n + 1 ≤ i → (k.set n y)[i]? = l[i]? := by
 intro i hi
 rw [List.getElem?_set_ne (by omega)]
 exact h i (by omega)
theorem set_map {α β : Type} {f : α → β} {l : List α} {n : Nat} {x y : α} (hx : l[n]? = some x) (hf : f y = f x) : (l.set n y).map f = l.map f := by
 rw [List.map_set, hf]
 refine List.ext_getElem? (fun i => ?_)
 by_cases e : n = i
 ·subst e
  obtain ⟨hlt, -⟩ := List.getElem?_eq_some_iff.1 hx
  rw [List.getElem?_set_self (by simpa using hlt), List.getElem?_map, hx]
  rfl
 ·rw [List.getElem?_set_ne e]
set_option maxHeartbeats 8000000 in
theorem copyOf_any (m : Mg) (es : List E) (gs : List G) (ms : List (Int × Int)) (w : World) (h : MsgAt w m es gs ms) (hs : MsgSz es gs ms) :
  Calls Try.prog 25 #[(.agg #[.int .i64 m.k, .int .i64 m.fr, .int .i64 m.tn, .int .i64 m.op, .int .i64 m.fo, .string m.key, .int .i64 m.bk, .slice m.ea m.el m.ec, .slice m.da m.dl m.dc, .slice m.ma m.ml m.mc])] w fun e w' => ∃ (te : Option Addr) (ce : Nat) (td : Option Addr) (cd : Nat) (tm : Option Addr) (cm : Nat) (ks : List E) (hs : List G), e = .returned (.agg #[.int .i64 m.k, .int .i64 m.fr, .int .i64 m.tn, .int .i64 m.op, .int .i64 m.fo, .string m.key, .int .i64 m.bk, .slice te es.length ce, .slice td gs.length cd, .slice tm ms.length cm]) ∧ absE ks = absE es ∧ hs.map G.abs = gs.map G.abs ∧
   (∀ v, Off (fun c => c < w.heap.size) w' v → Ens v te ce ks ∧ Dgs v td cd hs ∧ RowD v tm cm ms) ∧ Off (fun _ => False) w w' := by
 have h0 := h.el
 have h1 := h.dl
 have h2 := h.ml
 have HM : Hid _ := h
 have HSZ : Hid _ := hs
 have hes := hs.e
 have hgs := hs.g
 have hms := hs.m
 show Calls Try.prog 25 #[.agg #[.int .i64 m.k, .int .i64 m.fr, .int .i64 m.tn, .int .i64 m.op, .int .i64 m.fo, .string m.key, .int .i64 m.bk, .slice m.ea m.el m.ec, .slice m.da m.dl m.dc, .slice m.ma m.ml m.mc]] w _
 rw [h0, h1, h2]
 clear h h0 h1 h2 hs
 obtain ⟨W, hW⟩ : ∃ W, W = (w.alloc (.cells #[.int .i64 m.k, .int .i64 m.fr, .int .i64 m.tn, .int .i64 m.op, .int .i64 m.fo, .string m.key, .int .i64 m.bk, .slice m.ea es.length m.ec, .slice m.da gs.length m.dc, .slice m.ma ms.length m.mc] 31)).alloc (.cells #[.int .i64 0, .int .i64 0, .int .i64 0, .int .i64 0, .int .i64 0, .string ⟨#[]⟩, .int .i64 0, .slice none 0 0, .slice none 0 0, .slice none 0 0] 31) := ⟨_, rfl⟩
 have O : Off (fun _ => False) w W := by rw [hW]; exact ((Off.refl _ w).alloc _).alloc _
 have C0 : Cel w.heap.size 31 #[.int .i64 m.k, .int .i64 m.fr, .int .i64 m.tn, .int .i64 m.op, .int .i64 m.fo, .string m.key, .int .i64 m.bk, .slice m.ea es.length m.ec, .slice m.da gs.length m.dc, .slice m.ma ms.length m.mc] W := by rw [hW]; exact (Cel.new w _ _).alloc _
 have C1 : Cel (w.heap.size + 1) 31 #[.int .i64 0, .int .i64 0, .int .i64 0, .int .i64 0, .int .i64 0, .string ⟨#[]⟩, .int .i64 0, .slice none 0 0, .slice none 0 0, .slice none 0 0] W := by
  rw [hW]
  have := Cel.new (w.alloc (.cells #[.int .i64 m.k, .int .i64 m.fr, .int .i64 m.tn, .int .i64 m.op, .int .i64 m.fo, .string m.key, .int .i64 m.bk, .slice m.ea es.length m.ec, .slice m.da gs.length m.dc, .slice m.ma ms.length m.mc] 31)) 31 #[.int .i64 0, .int .i64 0, .int .i64 0, .int .i64 0, .int .i64 0, .string ⟨#[]⟩, .int .i64 0, .slice none 0 0, .slice none 0 0, .slice none 0 0]
  rwa [World.size_alloc] at this
 go_enter Try.func25, Try.ntmps25
 go_upto_region 1 with fail
 rw [← hW]
 have HO : Hid _ := O
 have HC0 : Hid _ := C0
 have HC1 : Hid _ := C1
 have HM1 : Hid _ := HM.out.off O
 clear hW O C0 C1
 obtain ⟨b, hb⟩ : ∃ b, b = w.heap.size := ⟨_, rfl⟩
 rw [← hb] at HC0 HC1 ⊢
 have HB : Hid (b = w.heap.size) := hb
 clear hb
 have c7 : W.cell? ⟨b, 7, none⟩ = some (.slice m.ea es.length m.ec) := HC0.out.cell 7
 go_wp2_with fail
 refine (eclone_big m.ea m.ec es W HM1.out.ens.newsX.1 HM1.out.ens.newsX.2 (by have := HSZ.out.e; omega)).mono ?_
 rintro e w1 ⟨te, ce, rfl, own1, hnw1, o1⟩
 have D0 := (HC0.out.off o1 (fun h => h)).set 7 (.slice te es.length ce)
 have fz := (HC0.out.off o1 (fun h => h)).free 7
 have c71 := (HC0.out.off o1 (fun h => h)).cell 7
 have HNE : Hid (∀ g, blk te = some g → b + 2 ≤ g) := fun g hg => by have h1 := hnw1 g hg; have h2 := HC1.out.lt; omega
 have HNT : Hid (∀ g, blk te = some g → g < w1.heap.size) := own1.lt
 have OS : Off (fun c => c = b) w1 (w1.setCell ⟨b, 7, none⟩ (.slice te es.length ce)) := (Off.refl (fun c => c = b) w1).setCell (p := ⟨b, 7, none⟩) (.inl rfl) _
 have HOWN : Hid (OwnG 96 10 ecs (w1.setCell ⟨b, 7, none⟩ (.slice te es.length ce)) te ce es) := own1.off OS (fun g _ hg e => by have e : g = b := e; have := HNE.out g hg; omega)
 have HC2 : Hid (Cel (b + 1) 31 #[.int .i64 0, .int .i64 0, .int .i64 0, .int .i64 0, .int .i64 0, .string ⟨#[]⟩, .int .i64 0, .slice none 0 0, .slice none 0 0, .slice none 0 0] (w1.setCell ⟨b, 7, none⟩ (.slice te es.length ce))) := (HC1.out.off o1 (fun h => h)).off OS (fun e => by have e : b + 1 = b := e; omega)
 have HO2 : Hid (Off (fun _ => False) w (w1.setCell ⟨b, 7, none⟩ (.slice te es.length ce))) := (HO.out.trans o1 (fun _ _ h => h)).trans OS (fun i hi e => by have e : i = b := e; have := HB.out; omega)
 have hsz1 : (w1.setCell ⟨b, 7, none⟩ (.slice te es.length ce)).heap.size = w1.heap.size := World.size_setCell _ _ _
 have HWM : Hid (W.heap.size ≤ w1.heap.size) := o1.size
 go_upto_region 2 with fail
 generalize w1.setCell ⟨b, 7, none⟩ (.slice te es.length ce) = V at D0 OS HOWN HC2 HO2 hsz1 ⊢
 have HD0 : Hid (Cel b 31 #[.int .i64 m.k, .int .i64 m.fr, .int .i64 m.tn, .int .i64 m.op, .int .i64 m.fo, .string m.key, .int .i64 m.bk, .slice te es.length ce, .slice m.da gs.length m.dc, .slice m.ma ms.length m.mc] V) := D0
 have HOS : Hid _ := OS
 obtain ⟨N1, hN1⟩ : ∃ N1, N1 = w1.heap.size := ⟨_, rfl⟩
 have HN1 : Hid (V.heap.size = N1) := by show _ = _; rw [hsz1, hN1]
 have HNT1 : Hid (∀ g, blk te = some g → g < N1) := fun g hg => by rw [hN1]; exact HNT.out g hg
 have HBN : Hid (b + 2 ≤ N1) := by have h1 := HC2.out.lt; have h2 := HN1.out; show _ ≤ _; omega
 clear fz c71 D0 OS own1 hnw1 o1 c7 hsz1 hN1 HNT HWM HM1 HC0 HC1 HO
 have c7 : V.cell? ⟨b, 7, none⟩ = some (.slice te es.length ce) := HD0.out.cell 7
 go_wp2_with fail
 go_loopw [14] (fun y wr => ∃ (n : Nat) (ks : List E), y = .int .i64 (n : Int) ∧ n ≤ es.length ∧ Hid (ks.length = es.length ∧ absE ks = absE es) ∧ Hid (OwnG 96 10 ecs wr te ce ks) ∧ Hid (∀ i z, i < n → ks[i]? = some z → ∀ v, Off (fun c => c < N1) wr v → Row v z.a z.cap z.l) ∧ Hid (∀ i, n ≤ i → ks[i]? = es[i]?) ∧ Hid (Cel b 31 #[.int .i64 m.k, .int .i64 m.fr, .int .i64 m.tn, .int .i64 m.op, .int .i64 m.fo, .string m.key, .int .i64 m.bk, .slice te es.length ce, .slice m.da gs.length m.dc, .slice m.ma ms.length m.mc] wr) ∧ Hid (Cel (b + 1) 31 #[.int .i64 0, .int .i64 0, .int .i64 0, .int .i64 0, .int .i64 0, .string ⟨#[]⟩, .int .i64 0, .slice none 0 0, .slice none 0 0, .slice none 0 0] wr) ∧ Hid (N1 ≤ wr.heap.size) ∧ Hid (Off (fun _ => False) w wr)) (fun y _ => ((es.length : Int) - intOf y).toNat)
 case atStart => exact ⟨0, es, rfl, by omega, ⟨rfl, rfl⟩, HOWN.out, (fun i z hi => by omega), (fun i _ => rfl), HD0.out, HC2.out, Nat.le_of_eq HN1.out.symm, HO2.out⟩
 case round =>
  clear HOWN HD0 HC2 HO2 HOS HN1 c7
  obtain ⟨n, ks, rfl, hn, HK, HOWN, HRW, HRS, HCB, HCZ, HNS, HO2⟩ := hrel
  by_cases hlt : n < es.length
  ·have e1 : decide ((n : Int) < (es.length : Int)) = true := decide_eq_true (by omega)
   have e2 : decide (n < es.length) = true := decide_eq_true hlt
   obtain ⟨z, hz⟩ : ∃ z, es[n]? = some z := ⟨_, List.getElem?_eq_getElem hlt⟩
   have hzk : ks[n]? = some z := by rw [HRS.out n (Nat.le_refl _)]; exact hz
   obtain ⟨g, rfl, hcs⟩ := HOWN.out.at_ ecs_len hzk
   have c9 : wr.cell? ⟨g, n * 10 + 9, none⟩ = some (.slice z.a z.l.length z.cap) := hcs 9 _ rfl
   obtain ⟨_, _, -, -, hrow⟩ := HM.out.ens.at_ n z hz
   have HROW : Hid (Row wr z.a z.cap z.l) := hrow.off HO2.out
   have HZ : Hid _ := hzk
   have HZE : Hid (z.l.length * 48 ≤ 140737488355328) := HSZ.out.ev z (List.mem_of_getElem? hz)
   have HCV : Hid _ := copyValues_any z.a z.cap z.l wr HROW.out HZE.out
   have hix := fun W => idx_ents hlt ce g 0 W
   simp only [Nat.zero_add] at hix
   have HGN : Hid (g < N1) := HNT1.out g rfl
   have HGB : Hid (b + 2 ≤ g) := HNE.out g rfl
   have c7 : wr.cell? ⟨b, 7, none⟩ = some (.slice (some ⟨g, 0, none⟩) es.length ce) := HCB.out.cell 7
   clear hz hzk hcs hrow HROW
   go_wp2_with fail
   refine Calls.mono HCV.out ?_
   rintro e w9 ⟨a9, c9', k9, rfl, hk9, rw9, fr9, o9⟩
   have HOW9 : Hid _ := HOWN.out.off o9 (fun _ _ _ h => h)
   obtain ⟨g', e', hcs⟩ := HOW9.out.at_ ecs_len HZ.out
   obtain rfl : g = g' := by simpa using e'
   have c92 : w9.cell? ⟨g, n * 10 + 9, none⟩ = some (.slice z.a z.l.length z.cap) := hcs 9 _ rfl
   have fz9 : w9.frozen? ⟨g, n * 10 + 9, none⟩ = false := by
    obtain ⟨g2, cur2, eg, hc, -⟩ := HOW9.out.celw (by simp)
    simp only [Option.some.injEq, Addr.mk.injEq, and_true] at eg
    rw [eg]
    exact hc.free _
   have HK9 : Hid (cont k9 = cont z.l) := hk9
   have HRW9 : Hid (Row w9 a9 c9' k9) := rw9
   have HFR9 : Hid (Far wr.heap.size a9 k9) := fr9
   have HO9 : Hid _ := o9
   have OS9 : Off (fun c => c = g) w9 (w9.setCell ⟨g, n * 10 + 9, none⟩ (.slice a9 k9.length c9')) := (Off.refl (fun c => c = g) w9).setCell (p := ⟨g, n * 10 + 9, none⟩) (.inl rfl) _
   have HOWS : Hid (OwnG 96 10 ecs (w9.setCell ⟨g, n * 10 + 9, none⟩ (.slice a9 k9.length c9')) (some ⟨g, 0, none⟩) ce (ks.set n (⟨z.key, z.f, a9, c9', k9⟩ : E))) := HOW9.out.setAt ecs_len HZ.out (by decide) rfl
   have HOS9 : Hid _ := OS9
   clear hk9 rw9 fr9 o9 c9 hix c7 HCV hcs e' OS9
   go_upto_region 7 with fail
   generalize w9.setCell ⟨g, n * 10 + 9, none⟩ (.slice a9 k9.length c9') = V9 at HOWS HOS9 ⊢
   clear c92 fz9
   go_wp2_with fail
   go_roundw
   case rel =>
    have o19 : Off (fun c => c = g) wr V9 := (HO9.out.mono (E := fun c => c = g) (fun _ _ h => h.elim)).trans HOS9.out (fun _ _ h => h)
    have hb1 := HGB.out
    have hg1 := HGN.out
    have hw1 := HB.out
    refine ⟨n + 1, ks.set n (⟨z.key, z.f, a9, c9', k9⟩ : E), by go_num, by omega, ⟨by rw [List.length_set]; exact HK.out.1, ?_⟩, HOWS.out, ?_, set_rest HRS.out, HCB.out.off o19 (fun e => by have e : b = g := e; omega), HCZ.out.off o19 (fun e => by have e : b + 1 = g := e; omega), Nat.le_trans HNS.out o19.size, HO2.out.trans o19 (fun i hi e => by have e : i = g := e; omega)⟩
    ·refine Eq.trans ?_ HK.out.2
     exact set_map HZ.out (by show E.abs ⟨z.key, z.f, a9, c9', k9⟩ = z.abs; unfold E.abs; rw [show cont k9 = cont z.l from HK9.out])
    ·refine set_mem HZ.out (fun i y hi hy v hv => HRW.out i y hi hy v ?_) (fun v hv => ?_)
     ·exact (o19.mono (E := fun c => c < N1) (fun i _ e => by have e : i = g := e; omega)).trans hv (fun _ _ h => h)
     ·have hn1 := HNS.out
      exact HRW9.out.offF HFR9.out ((HOS9.out.mono (E := fun c => c < N1) (fun i _ e => by have e : i = g := e; omega)).trans hv (fun _ _ h => h)) (fun x hx e => by have e : x < N1 := e; omega)
   case measure => simp [intOf]; omega
  ·obtain rfl : n = es.length := by omega
   have e1 : decide ((es.length : Int) < (es.length : Int)) = false := decide_eq_false (by omega)
   have e2 : decide (es.length < es.length) = false := decide_eq_false (by omega)
   obtain ⟨NE, hne⟩ : ∃ NE, NE = wr.heap.size := ⟨_, rfl⟩
   have HNW : Hid (NE = wr.heap.size) := hne
   clear hne
   have HEN : Hid (∀ v, Off (fun c => c < b + 2 ∨ NE ≤ c) wr v → Ens v te ce ks) := fun v hv0 => by
    have hv : Off (fun c => c < b + 2) wr v := ⟨hv0.os, hv0.tape, hv0.output, hv0.size, fun i hi hn => hv0.block i hi (fun e => by have := HNW.out; rcases e with e | e; exact hn e; omega)⟩
    refine (HOWN.out.off hv (fun g _ hg e => by have e : g < b + 2 := e; have := HNE.out g hg; omega)).ens (fun z hz => ?_)
    obtain ⟨i, hi⟩ := List.getElem?_of_mem hz
    obtain ⟨hl, -⟩ := List.getElem?_eq_some_iff.1 hi
    exact HRW.out i z (by rw [← HK.out.1]; exact hl) hi v (hv.mono (fun x _ e => by have e : x < b + 2 := e; have := HBN.out; show x < N1; omega))
   have HKE : Hid (absE ks = absE es ∧ ks.length = es.length) := ⟨HK.out.2, HK.out.1⟩
   clear HOWN HRW HRS HK HNE HNT1 HNS HBN
   have c8 : wr.cell? ⟨b, 8, none⟩ = some (.slice m.da gs.length m.dc) := HCB.out.cell 8
   have HMW : Hid _ := HM.out.off HO2.out
   go_wp2_with fail
   refine (gclone_big m.da m.dc gs wr HMW.out.dgs.newsX.1 HMW.out.dgs.newsX.2 (by have := HSZ.out.g; omega)).mono ?_
   rintro e w1 ⟨td, cd, rfl, own1, hnw1, o1⟩
   have D0 := (HCB.out.off o1 (fun h => h)).set 8 (.slice td gs.length cd)
   have fz := (HCB.out.off o1 (fun h => h)).free 8
   have c81 := (HCB.out.off o1 (fun h => h)).cell 8
   have HNE : Hid (∀ g, blk td = some g → b + 2 ≤ g) := fun g hg => by have h1 := hnw1 g hg; have h2 := HCZ.out.lt; omega
   have HNT : Hid (∀ g, blk td = some g → g < w1.heap.size) := own1.lt
   have HNG : Hid (∀ g, blk td = some g → NE ≤ g) := fun g hg => by have h1 := hnw1 g hg; have h2 := HNW.out; omega
   have OS : Off (fun c => c = b) w1 (w1.setCell ⟨b, 8, none⟩ (.slice td gs.length cd)) := (Off.refl (fun c => c = b) w1).setCell (p := ⟨b, 8, none⟩) (.inl rfl) _
   have HOWN : Hid (OwnG 102 10 gcs (w1.setCell ⟨b, 8, none⟩ (.slice td gs.length cd)) td cd gs) := own1.off OS (fun g _ hg e => by have e : g = b := e; have := HNE.out g hg; omega)
   have HC2 : Hid (Cel (b + 1) 31 #[.int .i64 0, .int .i64 0, .int .i64 0, .int .i64 0, .int .i64 0, .string ⟨#[]⟩, .int .i64 0, .slice none 0 0, .slice none 0 0, .slice none 0 0] (w1.setCell ⟨b, 8, none⟩ (.slice td gs.length cd))) := (HCZ.out.off o1 (fun h => h)).off OS (fun e => by have e : b + 1 = b := e; omega)
   have HO3 : Hid (Off (fun _ => False) w (w1.setCell ⟨b, 8, none⟩ (.slice td gs.length cd))) := (HO2.out.trans o1 (fun _ _ h => h)).trans OS (fun i hi e => by have e : i = b := e; have := HB.out; omega)
   have hsz1 : (w1.setCell ⟨b, 8, none⟩ (.slice td gs.length cd)).heap.size = w1.heap.size := World.size_setCell _ _ _
   have HEN2 : Hid (∀ v, Off (fun c => c < b + 2 ∨ NE ≤ c) (w1.setCell ⟨b, 8, none⟩ (.slice td gs.length cd)) v → Ens v te ce ks) := fun v hv => HEN.out v (((o1.mono (E := fun c => c < b + 2 ∨ NE ≤ c) (fun _ _ h => h.elim)).trans OS (fun i _ e => by have e : i = b := e; show i < b + 2 ∨ NE ≤ i; omega)).trans hv (fun _ _ h => h))
   go_upto_region 9 with fail
   generalize w1.setCell ⟨b, 8, none⟩ (.slice td gs.length cd) = V at D0 OS HOWN HC2 HO3 HEN2 hsz1 ⊢
   have HD0 : Hid (Cel b 31 #[.int .i64 m.k, .int .i64 m.fr, .int .i64 m.tn, .int .i64 m.op, .int .i64 m.fo, .string m.key, .int .i64 m.bk, .slice te es.length ce, .slice td gs.length cd, .slice m.ma ms.length m.mc] V) := D0
   obtain ⟨N2, hN2⟩ : ∃ N2, N2 = w1.heap.size := ⟨_, rfl⟩
   have HN2 : Hid (V.heap.size = N2) := by show _ = _; rw [hsz1, hN2]
   have HNT1 : Hid (∀ g, blk td = some g → g < N2) := fun g hg => by rw [hN2]; exact HNT.out g hg
   have HBN : Hid (b + 2 ≤ N2) := by have h1 := HC2.out.lt; have h2 := HN2.out; show _ ≤ _; omega
   clear fz c81 D0 OS own1 hnw1 o1 c8 hsz1 hN2 HNT HMW HCB HCZ HO2 HEN
   have c8 : V.cell? ⟨b, 8, none⟩ = some (.slice td gs.length cd) := HD0.out.cell 8
   go_wp2_with fail
   go_loopw [38] (fun y wr => ∃ (n : Nat) (hs : List G), y = .int .i64 (n : Int) ∧ n ≤ gs.length ∧ Hid (hs.length = gs.length ∧ hs.map G.abs = gs.map G.abs) ∧ Hid (OwnG 102 10 gcs wr td cd hs) ∧ Hid (∀ i z, i < n → hs[i]? = some z → ∀ v, Off (fun c => c < N2) wr v → RowD v z.a z.cap z.ds) ∧ Hid (∀ i, n ≤ i → hs[i]? = gs[i]?) ∧ Hid (Cel b 31 #[.int .i64 m.k, .int .i64 m.fr, .int .i64 m.tn, .int .i64 m.op, .int .i64 m.fo, .string m.key, .int .i64 m.bk, .slice te es.length ce, .slice td gs.length cd, .slice m.ma ms.length m.mc] wr) ∧ Hid (Cel (b + 1) 31 #[.int .i64 0, .int .i64 0, .int .i64 0, .int .i64 0, .int .i64 0, .string ⟨#[]⟩, .int .i64 0, .slice none 0 0, .slice none 0 0, .slice none 0 0] wr) ∧ Hid (N2 ≤ wr.heap.size) ∧ Hid (∀ v, Off (fun c => c < b + 2 ∨ NE ≤ c) wr v → Ens v te ce ks) ∧ Hid (Off (fun _ => False) w wr)) (fun y _ => ((gs.length : Int) - intOf y).toNat)
   case atStart => exact ⟨0, gs, rfl, by omega, ⟨rfl, rfl⟩, HOWN.out, (fun i z hi => by omega), (fun i _ => rfl), HD0.out, HC2.out, Nat.le_of_eq HN2.out.symm, HEN2.out, HO3.out⟩
   case round =>
    clear HOWN HD0 HC2 HO3 HN2 HEN2 c8
    obtain ⟨n, hs, rfl, hn, HK, HOWN, HRW, HRS, HCB, HCZ, HNS, HEN, HO2⟩ := hrel
    by_cases hlt : n < gs.length
    ·have e1 : decide ((n : Int) < (gs.length : Int)) = true := decide_eq_true (by omega)
     have e2 : decide (n < gs.length) = true := decide_eq_true hlt
     obtain ⟨z, hz⟩ : ∃ z, gs[n]? = some z := ⟨_, List.getElem?_eq_getElem hlt⟩
     have hzk : hs[n]? = some z := by rw [HRS.out n (Nat.le_refl _)]; exact hz
     obtain ⟨g, rfl, hcs⟩ := HOWN.out.at_ gcs_len hzk
     have c9 : wr.cell? ⟨g, n * 10 + 9, none⟩ = some (.slice z.a z.ds.length z.cap) := hcs 9 _ rfl
     obtain ⟨_, _, -, -, hrow⟩ := HM.out.dgs.at_ n z hz
     have HROW : Hid (RowD wr z.a z.cap z.ds) := hrow.off HO2.out
     have HZ : Hid _ := hzk
     have HCV : Hid _ := dclone_big z.a z.cap z.ds wr HROW.out.newsX.1 HROW.out.newsX.2 (HSZ.out.gd z (List.mem_of_getElem? hz))
     have hix := fun W => idx_dgs hlt cd g 0 W
     simp only [Nat.zero_add] at hix
     have HGN : Hid (g < N2) := HNT1.out g rfl
     have HGB : Hid (b + 2 ≤ g) := HNE.out g rfl
     have HGE : Hid (NE ≤ g) := HNG.out g rfl
     have c8 : wr.cell? ⟨b, 8, none⟩ = some (.slice (some ⟨g, 0, none⟩) gs.length cd) := HCB.out.cell 8
     clear hz hzk hcs hrow HROW
     go_wp2_with fail
     refine Calls.mono HCV.out ?_
     rintro e w9 ⟨a9, c9', rfl, own9, nw9, o9⟩
     have HOW9 : Hid _ := HOWN.out.off o9 (fun _ _ _ h => h)
     obtain ⟨g', e', hcs⟩ := HOW9.out.at_ gcs_len HZ.out
     obtain rfl : g = g' := by simpa using e'
     have c92 : w9.cell? ⟨g, n * 10 + 9, none⟩ = some (.slice z.a z.ds.length z.cap) := hcs 9 _ rfl
     have fz9 : w9.frozen? ⟨g, n * 10 + 9, none⟩ = false := by
      obtain ⟨g2, cur2, eg, hc, -⟩ := HOW9.out.celw (by simp)
      simp only [Option.some.injEq, Addr.mk.injEq, and_true] at eg
      rw [eg]
      exact hc.free _
     have HRW9 : Hid (OwnG 106 2 dcs w9 a9 c9' z.ds) := own9
     have HFR9 : Hid (∀ x, blk a9 = some x → wr.heap.size ≤ x) := nw9
     have HO9 : Hid _ := o9
     have OS9 : Off (fun c => c = g) w9 (w9.setCell ⟨g, n * 10 + 9, none⟩ (.slice a9 z.ds.length c9')) := (Off.refl (fun c => c = g) w9).setCell (p := ⟨g, n * 10 + 9, none⟩) (.inl rfl) _
     have HOWS : Hid (OwnG 102 10 gcs (w9.setCell ⟨g, n * 10 + 9, none⟩ (.slice a9 z.ds.length c9')) (some ⟨g, 0, none⟩) cd (hs.set n (⟨z.key, z.f, a9, c9', z.ds⟩ : G))) := HOW9.out.setAt gcs_len HZ.out (by decide) rfl
     have HOS9 : Hid _ := OS9
     clear own9 nw9 o9 c9 hix c8 HCV hcs e' OS9
     go_upto_region 14 with fail
     generalize w9.setCell ⟨g, n * 10 + 9, none⟩ (.slice a9 z.ds.length c9') = V9 at HOWS HOS9 ⊢
     clear c92 fz9
     go_wp2_with fail
     go_roundw
     case rel =>
      have o19 : Off (fun c => c = g) wr V9 := (HO9.out.mono (E := fun c => c = g) (fun _ _ h => h.elim)).trans HOS9.out (fun _ _ h => h)
      have hb1 := HGB.out
      have hg1 := HGN.out
      have hw1 := HB.out
      refine ⟨n + 1, hs.set n (⟨z.key, z.f, a9, c9', z.ds⟩ : G), by go_num, by omega, ⟨by rw [List.length_set]; exact HK.out.1, ?_⟩, HOWS.out, ?_, set_rest HRS.out, HCB.out.off o19 (fun e => by have e : b = g := e; omega), HCZ.out.off o19 (fun e => by have e : b + 1 = g := e; omega), Nat.le_trans HNS.out o19.size, ?_, HO2.out.trans o19 (fun i hi e => by have e : i = g := e; omega)⟩
      ·rw [← HK.out.2]
       exact set_map HZ.out rfl
      ·refine set_mem HZ.out (fun i y hi hy v hv => HRW.out i y hi hy v ?_) (fun v hv => ?_)
       ·exact (o19.mono (E := fun c => c < N2) (fun i _ e => by have e : i = g := e; omega)).trans hv (fun _ _ h => h)
       ·have hn1 := HNS.out
        exact (HRW9.out.off ((HOS9.out.mono (E := fun c => c < N2) (fun i _ e => by have e : i = g := e; omega)).trans hv (fun _ _ h => h)) (fun x _ hx e => by have e : x < N2 := e; have := HFR9.out x hx; omega)).rowX
      ·exact fun v hv => HEN.out v ((o19.mono (E := fun c => c < b + 2 ∨ NE ≤ c) (fun i _ e => by have e : i = g := e; have := HGE.out; show i < b + 2 ∨ NE ≤ i; omega)).trans hv (fun _ _ h => h))
     case measure => simp [intOf]; omega
    ·obtain rfl : n = gs.length := by omega
     have e1 : decide ((gs.length : Int) < (gs.length : Int)) = false := decide_eq_false (by omega)
     have e2 : decide (gs.length < gs.length) = false := decide_eq_false (by omega)
     have HDN : Hid (∀ v, Off (fun c => c < b + 2) wr v → Dgs v td cd hs) := fun v hv => by
      refine (HOWN.out.off hv (fun g _ hg e => by have e : g < b + 2 := e; have := HNE.out g hg; omega)).dgs (fun z hz => ?_)
      obtain ⟨i, hi⟩ := List.getElem?_of_mem hz
      obtain ⟨hl, -⟩ := List.getElem?_eq_some_iff.1 hi
      exact HRW.out i z (by rw [← HK.out.1]; exact hl) hi v (hv.mono (fun x _ e => by have e : x < b + 2 := e; have := HBN.out; show x < N2; omega))
     have HKD : Hid (hs.map G.abs = gs.map G.abs) := HK.out.2
     clear HOWN HRW HRS HK HNE HNT1 HNS HBN
     have c9 : wr.cell? ⟨b, 9, none⟩ = some (.slice m.ma ms.length m.mc) := HCB.out.cell 9
     have HMR : Hid (RowD wr m.ma m.mc ms) := HM.out.mbs.off HO2.out
     go_wp2_with fail
     refine (mclone_big m.ma m.mc ms wr HMR.out.newsX.1 HMR.out.newsX.2 (by have := HSZ.out.m; omega)).mono ?_
     rintro e w1 ⟨tm, cm, rfl, own1, hnw1, o1⟩
     have D0 := (HCB.out.off o1 (fun h => h)).set 9 (.slice tm ms.length cm)
     have fz := (HCB.out.off o1 (fun h => h)).free 9
     have c91 := (HCB.out.off o1 (fun h => h)).cell 9
     have OS : Off (fun c => c = b) w1 (w1.setCell ⟨b, 9, none⟩ (.slice tm ms.length cm)) := (Off.refl (fun c => c = b) w1).setCell (p := ⟨b, 9, none⟩) (.inl rfl) _
     have HE3 : Cel (b + 1) 31 #[.int .i64 0, .int .i64 0, .int .i64 0, .int .i64 0, .int .i64 0, .string ⟨#[]⟩, .int .i64 0, .slice none 0 0, .slice none 0 0, .slice none 0 0] (w1.setCell ⟨b, 9, none⟩ (.slice tm ms.length cm)) := (HCZ.out.off o1 (fun h => h)).off OS (fun e => by have e : b + 1 = b := e; omega)
     go_upto_region 16 with fail
     generalize w1.setCell ⟨b, 9, none⟩ (.slice tm ms.length cm) = V3 at D0 OS HE3 ⊢
     have HD3 : Hid (Cel b 31 #[.int .i64 m.k, .int .i64 m.fr, .int .i64 m.tn, .int .i64 m.op, .int .i64 m.fo, .string m.key, .int .i64 m.bk, .slice te es.length ce, .slice td gs.length cd, .slice tm ms.length cm] V3) := D0
     have HZ3 : Hid _ := HE3
     have HO1 : Hid _ := o1
     have HOS3 : Hid _ := OS
     have HOW3 : Hid _ := own1
     have HNW3 : Hid (∀ g, blk tm = some g → b + 2 ≤ g) := fun g hg => by have h1 := hnw1 g hg; have h2 := HCZ.out.lt; omega
     clear fz c91 D0 OS own1 hnw1 o1 HE3 c9
     obtain ⟨x0, x1, x2, x3, x4, x5, x6, x7, x8, x9⟩ := celw10 HD3.out
     obtain ⟨y0, y1, y2, y3, y4, y5, y6, y7, y8, y9⟩ := celw10 HZ3.out
     have fz := HZ3.out.free
     go_wp2_with fail
     refine bodyPost_ret (results_msg (x := (⟨m.k, m.fr, m.tn, m.op, m.fo, m.key, m.bk, te, es.length, ce, td, gs.length, cd, tm, ms.length, cm⟩ : Mg)) rfl rfl (HZ3.out.wrwAll (vs := mcs (⟨m.k, m.fr, m.tn, m.op, m.fo, m.key, m.bk, te, es.length, ce, td, gs.length, cd, tm, ms.length, cm⟩ : Mg)) rfl)) rfl ?_
     have ow : Off (fun c => c = b + 1) V3 (wrw (b + 1) 0 (mcs (⟨m.k, m.fr, m.tn, m.op, m.fo, m.key, m.bk, te, es.length, ce, td, gs.length, cd, tm, ms.length, cm⟩ : Mg)) V3) := off_wrw (Off.refl (fun c => c = b + 1) V3) (.inl rfl)
     have o13f : Off (fun c => b ≤ c) w1 (wrw (b + 1) 0 (mcs (⟨m.k, m.fr, m.tn, m.op, m.fo, m.key, m.bk, te, es.length, ce, td, gs.length, cd, tm, ms.length, cm⟩ : Mg)) V3) := (HOS3.out.mono (E := fun c => b ≤ c) (fun i _ e => by have e : i = b := e; show b ≤ i; omega)).trans ow (fun i _ e => by have e : i = b + 1 := e; show b ≤ i; omega)
     have o13 : Off (fun c => c < b + 2) w1 (wrw (b + 1) 0 (mcs (⟨m.k, m.fr, m.tn, m.op, m.fo, m.key, m.bk, te, es.length, ce, td, gs.length, cd, tm, ms.length, cm⟩ : Mg)) V3) := (HOS3.out.mono (E := fun c => c < b + 2) (fun i _ e => by have e : i = b := e; omega)).trans ow (fun i _ e => by have e : i = b + 1 := e; omega)
     have o03 := (HO1.out.mono (E := fun c => c < b + 2) (fun _ _ h => h.elim)).trans o13 (fun _ _ h => h)
     have hbw := HB.out
     refine ⟨te, ce, td, cd, tm, cm, ks, hs, rfl, HKE.out.1, HKD.out, fun v hv => ?_, (HO2.out.trans HO1.out (fun _ _ h => h)).trans o13f (fun i hi e => by have e : b ≤ i := e; omega)⟩
     have hv2 := hv.mono (E := fun c => c < b + 2) (fun i _ e => by have e : i < w.heap.size := e; show i < b + 2; omega)
     have ov := o03.trans hv2 (fun _ _ h => h)
     exact ⟨HEN.out v (ov.mono (fun _ _ e => .inl e)), HDN.out v ov, (HOW3.out.off (o13.trans hv2 (fun _ _ h => h)) (fun x _ hx e => by have e : x < b + 2 := e; have := HNW3.out x hx; omega)).rowX⟩
end Go.Proofs.Ytmeclfgehpbjlaa
