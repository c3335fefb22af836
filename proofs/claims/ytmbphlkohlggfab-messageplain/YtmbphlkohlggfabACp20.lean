/- Items of several texts. -/
import Derived.Deep.CutRange
import Derived.Test.YtmbphlkohlggfabARea
import Derived.Test.YtmbphlkohlggfabAMay20
namespace Go.Proofs.Ytmbphlkohlggfab
set_option maxRecDepth 100000
open Go.RowKit
set_option maxRecDepth 100000 in
set_option maxHeartbeats 1000000 in
theorem xcopyValue_any (v : V) (w : World) (hv : VOk w v) :
  Calls Try.prog 14 #[.agg #[.int .i64 v.node, .int .i64 v.num, .slice v.ad v.data.length v.cap, .bool v.dead]] w fun e w' => ∃ u : V, e = .returned (.agg #[.int .i64 u.node, .int .i64 u.num, .slice u.ad u.data.length u.cap, .bool u.dead]) ∧ u.abs = v.abs ∧ OwnR w' u.ad u.cap u.data ∧ VOk w' u ∧ (∀ k, blk u.ad = some k → w.heap.size ≤ k) ∧ Off (fun _ => False) w w' := by
 obtain ⟨W, hW⟩ : ∃ W, W = ((w.alloc (.cells #[.int .i64 v.node, .int .i64 v.num, .slice v.ad v.data.length v.cap, .bool v.dead] 50)).alloc (.cells #[.int .i64 zeroV.node, .int .i64 zeroV.num, .slice zeroV.ad zeroV.data.length zeroV.cap, .bool zeroV.dead] 50)) := ⟨_, rfl⟩
 have O : Off (fun _ => False) w W := by rw [hW]; exact ((Off.refl _ w).alloc _).alloc _
 have C0 : Cel w.heap.size 50 #[.int .i64 v.node, .int .i64 v.num, .slice v.ad v.data.length v.cap, .bool v.dead] W := by rw [hW]; exact (Cel.new w _ _).alloc _
 have C1 : Cel (w.heap.size + 1) 50 #[.int .i64 zeroV.node, .int .i64 zeroV.num, .slice zeroV.ad zeroV.data.length zeroV.cap, .bool zeroV.dead] W := by rw [hW]; exact Cel.new1 w _ _ _
 have hs := hv.src.off O (fun _ _ _ h => h)
 have HC1 : Hid _ := C1
 have HC0 : Hid _ := C0
 obtain ⟨x0, x1, x2, x3⟩ := cel4 C0
 have HW : Hid _ := hW
 clear C0 C1 hW
 go_enter Try.func14, Try.ntmps14
 go_wp2_with fail
 have eW : ((w.alloc (.cells #[.int .i64 v.node, .int .i64 v.num, .slice v.ad v.data.length v.cap, .bool v.dead] 50)).alloc (.cells #[.int .i64 0, .int .i64 0, .slice none 0 0, .bool false] 50)) = W := HW.out.symm
 rw [eW]
 refine (bclone_any v.ad v.cap v.data (by have := hv.len; omega) W hs).mono ?_
 rintro e w1 ⟨t, c, rfl, own, hn, o1⟩
 have D0 := HC0.out.off o1 (fun h => h)
 have D1 := HC1.out.off o1 (fun h => h)
 have O1 := O.trans o1 (fun _ _ h => h)
 have hne : ∀ k, blk t = some k → k ≠ w.heap.size ∧ k ≠ w.heap.size + 1 := fun k hk => by
  have h1 := hn k hk
  have h2 := HC1.out.lt
  constructor <;> omega
 clear x0 x1 x2 x3 eW
 obtain ⟨x0, x1, x2, x3⟩ := cel4 D0
 obtain ⟨z0, z1, z2, z3⟩ := cel4 D1
 have f0 := D0.free
 have f1 := D1.free
 have hs0 : w.heap.size ≤ W.heap.size := O.size
 have E0 : Cel w.heap.size 50 #[.int .i64 (⟨v.node, v.num, t, c, v.data, v.dead⟩ : V).node, .int .i64 (⟨v.node, v.num, t, c, v.data, v.dead⟩ : V).num, .slice (⟨v.node, v.num, t, c, v.data, v.dead⟩ : V).ad (⟨v.node, v.num, t, c, v.data, v.dead⟩ : V).data.length (⟨v.node, v.num, t, c, v.data, v.dead⟩ : V).cap, .bool (⟨v.node, v.num, t, c, v.data, v.dead⟩ : V).dead] (w1.setCell ⟨w.heap.size, 2, none⟩ (.slice t v.data.length c)) := by
  have := D0.set 2 (.slice t v.data.length c)
  simpa using this
 have E1 : Cel (w.heap.size + 1) 50 #[.int .i64 zeroV.node, .int .i64 zeroV.num, .slice zeroV.ad zeroV.data.length zeroV.cap, .bool zeroV.dead] (w1.setCell ⟨w.heap.size, 2, none⟩ (.slice t v.data.length c)) := D1.other (by simp) _
 have HO : Hid _ := O1
 have HE1 : Hid _ := E1
 have HOW : Hid _ := own
 have HN : Hid _ := hn
 have HNE : Hid _ := hne
 have HHS : Hid _ := hs0
 clear own hn hne hs0 O O1 o1 D0 D1 E0 E1 HC0 HC1 hs HW
 go_wp2_with fail
 refine bodyPost_ret (results_val rfl rfl (HE1.out.st4 ⟨v.node, v.num, t, c, v.data, v.dead⟩)) rfl ?_
 have OF : Off (fun _ => False) w ((((((w1.setCell ⟨w.heap.size, 2, none⟩ (.slice t v.data.length c)).setCell ⟨w.heap.size + 1, 0, none⟩ (.int .i64 v.node)).setCell ⟨w.heap.size + 1, 1, none⟩ (.int .i64 v.num)).setCell ⟨w.heap.size + 1, 2, none⟩ (.slice t v.data.length c)).setCell ⟨w.heap.size + 1, 3, none⟩ (.bool v.dead))) := (HO.out.setCell (.inr (by simp)) _).st4 (.inr (by omega)) ⟨v.node, v.num, t, c, v.data, v.dead⟩
 have OWN : OwnR ((((((w1.setCell ⟨w.heap.size, 2, none⟩ (.slice t v.data.length c)).setCell ⟨w.heap.size + 1, 0, none⟩ (.int .i64 v.node)).setCell ⟨w.heap.size + 1, 1, none⟩ (.int .i64 v.num)).setCell ⟨w.heap.size + 1, 2, none⟩ (.slice t v.data.length c)).setCell ⟨w.heap.size + 1, 3, none⟩ (.bool v.dead))) t c v.data := by
  refine HOW.out.off (D := fun k => k = w.heap.size ∨ k = w.heap.size + 1) (((Off.refl _ w1).setCell (.inl (.inl rfl)) _).st4 (.inl (.inr rfl)) ⟨v.node, v.num, t, c, v.data, v.dead⟩) (fun k _ hk h => ?_)
  have := HNE.out k hk
  omega
 exact ⟨⟨v.node, v.num, t, c, v.data, v.dead⟩, rfl, rfl, OWN, ⟨OWN.src, hv.lt, hv.n0, hv.n1, hv.m0, hv.m1, hv.len⟩, fun k hk => Nat.le_trans HHS.out (HN.out k hk), OF⟩
set_option maxRecDepth 100000 in
set_option maxHeartbeats 1000000 in
theorem xcopyAllV_any (a : Option Addr) (cap : Nat) (l : List V) (w : World) (h : Row w a cap l) (hl : l.length ≤ 1000) :
  Calls Try.prog 13 #[.slice a l.length cap, .func (.func 14) #[] #[]] w fun e w' => ∃ (t : Option Addr) (c : Nat) (k : List V), e = .returned (.slice t k.length c) ∧ cont k = cont l ∧ Made w.heap.size w' t c k ∧ (∀ i, blk t = some i → i < w'.heap.size) ∧ Off (fun _ => False) w w' := by
 have hb := h.bound
 have HRW : Hid _ := h
 clear h
 go_enter Try.func13, Try.ntmps13
 go_wp2_with fail
 go_loopw [5, 10] (fun x y wr => ∃ (n : Nat) (t : Option Addr) (c : Nat) (k : List V), y = .int .i64 (n : Int) ∧ x = .slice t k.length c ∧ n ≤ l.length ∧ k.length = n ∧ OwnG 50 4 vcl wr t c k ∧ (∀ i, blk t = some i → w.heap.size ≤ i) ∧ (∀ v ∈ k, VOk wr v ∧ OwnR wr v.ad v.cap v.data ∧ ∀ i, blk v.ad = some i → w.heap.size ≤ i ∧ blk t ≠ some i) ∧ cont k = cont (l.take n) ∧ Off (fun _ => False) w wr) (fun _ y _ => (l.length - intOf y).toNat)
 case atStart => exact ⟨0, none, 0, [], rfl, rfl, by omega, rfl, OwnG.nil _ _ _ _, fun i hi => by simp [blk] at hi, by simp, by simp, Off.refl _ w⟩
 case round =>
  obtain ⟨n, t, c, k, rfl, rfl, hn, hkn, own, hlo, hbl, hdat, O⟩ := hrel
  have hr1 := HRW.out.off O
  have HOWN : Hid _ := own
  have HLO : Hid _ := hlo
  have HBL : Hid _ := hbl
  have HDA : Hid _ := hdat
  have HKN : Hid _ := hkn
  clear own hlo hbl hdat hkn
  by_cases hlt : n < l.length
  ·have e1 : decide ((n : Int) < (l.length : Int)) = true := decide_eq_true (by omega)
   have e2 : decide (n < l.length) = true := decide_eq_true hlt
   obtain ⟨v, hv⟩ : ∃ v, l[n]? = some v := ⟨_, List.getElem?_eq_getElem hlt⟩
   obtain ⟨b, off, rfl, kk, hvo⟩ := hr1.at_ n v hv
   obtain ⟨k0, k1, k2, k3⟩ := kk
   have O1 : Off (fun _ => False) wr (wr.alloc (.cells #[.int .i64 v.node, .int .i64 v.num, .slice v.ad v.data.length v.cap, .bool v.dead] 50)) := (Off.refl _ wr).alloc _
   have vo1 := hvo.off O1 (fun _ _ _ h => h)
   have HV : Hid _ := hv
   have HO : Hid _ := O
   have HO1 : Hid _ := O1
   clear hv hvo hr1 O O1
   go_wp2_with fail
   refine (xcopyValue_any v _ vo1).mono ?_
   rintro e w3 ⟨u, rfl, hu, uo, uk, un, o3⟩
   have O3 := HO1.out.trans o3 (fun _ _ h => h)
   have hun : ∀ i, blk u.ad = some i → wr.heap.size ≤ i ∧ i < w3.heap.size := fun i hi => ⟨by have := un i hi; have := HO1.out.size; omega, uo.lt i hi⟩
   have HUN : Hid _ := hun
   have HUO : Hid _ := uo
   have HUK : Hid _ := uk
   have HHU : Hid _ := hu
   have HO3 : Hid _ := O3
   clear k0 k1 k2 k3 vo1 uo uk un hu o3 O3 hun HO1
   have OA : Off (fun _ => False) w3 (w3.alloc (.cells #[.int .i64 u.node, .int .i64 u.num, .slice u.ad u.data.length u.cap, .bool u.dead] 50)) := (Off.refl _ w3).alloc _
   have O4 := HO3.out.trans OA (fun _ _ h => h)
   have own4 := HOWN.out.off O4 (fun _ _ _ h => h)
   have cn := Cel.new w3 50 #[.int .i64 u.node, .int .i64 u.num, .slice u.ad u.data.length u.cap, .bool u.dead]
   have hcn : ∀ j x, (vcl u)[j]? = some x → (w3.alloc (.cells #[.int .i64 u.node, .int .i64 u.num, .slice u.ad u.data.length u.cap, .bool u.dead] 50)).cell? ⟨w3.heap.size, j, none⟩ = some x := fun j x hj => by
    rw [cn.cell j]
    simpa [vcl] using hj
   have HO4 : Hid _ := O4
   have HOA : Hid _ := OA
   have hk1 : k.length ≤ 1000000 := by have := HKN.out; omega
   clear O4 OA cn
   go_wp2_with (at_builtin; refine wpList_appG rfl (.tmp 14) (.tmp 18) Try.underlying37 Try.infoV rfl (by decide) (by decide) vcl_len vcl_one rfl t c k rfl own4 w3.heap.size 1 u rfl hcn hk1 ?_; intro t' c' w' ys hys own' off' at')
   have HYS : Hid _ := hys.out
   have hyl : ys.length = k.length + 1 := by rw [hys.out]; simp
   have HYL : Hid _ := hyl
   clear hys hyl hk1
   have HOW' : Hid _ := own'
   have HOF' : Hid _ := off'
   clear own' off' own4 hcn
   go_wp2_with fail
   go_roundw
   case rel =>
    have hyl := HYL.out
    have hkn := HKN.out
    have s3 := HO3.out.size
    have s4 := HO4.out.size
    simp only [World.size_alloc] at s4 at'
    have so := HO.out.size
    have tf : ∀ i, blk t' = some i → w.heap.size ≤ i := fun i hi => by
     rcases at' with h9 | h9
     ·exact HLO.out i (h9 ▸ hi)
     ·rw [h9] at hi; simp at hi; omega
    have old : ∀ x ∈ k, ∀ i, blk x.ad = some i → blk t' ≠ some i := fun x hx i hi e => by
     rcases at' with h9 | h9
     ·exact ((HBL.out x hx).2.2 i hi).2 (h9 ▸ e)
     ·rw [h9] at e
      simp at e
      have := (HBL.out x hx).2.1.lt i hi
      omega
    have hnt : ∀ i, blk u.ad = some i → blk t ≠ some i := fun i hi e => by
     have h1 := (HUN.out i hi).1
     have h2 := HOWN.out.lt i e
     omega
    refine ⟨n + 1, t', c', ys, by go_num, rfl, by omega, by omega, HOW'.out, tf, fun x hx => ?_, ?_, (HO.out.trans HO4.out (fun _ _ h => h)).trans HOF'.out (fun i hi e => by have := HLO.out i e; omega)⟩
    ·rw [HYS.out, List.mem_append, List.mem_singleton] at hx
     rcases hx with hx | rfl
     ·exact ⟨((HBL.out x hx).1.off HO4.out (fun _ _ _ h => h)).off HOF'.out (fun c _ hc e => ((HBL.out x hx).2.2 c hc).2 e), ((HBL.out x hx).2.1.off HO4.out (fun _ _ _ h => h)).off HOF'.out (fun c _ hc e => ((HBL.out x hx).2.2 c hc).2 e), fun i hi => ⟨((HBL.out x hx).2.2 i hi).1, old x hx i hi⟩⟩
     ·refine ⟨(HUK.out.off HOA.out (fun _ _ _ h => h)).off HOF'.out (fun c _ hc e => hnt c hc e), (HUO.out.off HOA.out (fun _ _ _ h => h)).off HOF'.out (fun c _ hc e => hnt c hc e), fun i hi => ⟨?_, fun e => ?_⟩⟩
      ·have := (HUN.out i hi).1
       omega
      ·rcases at' with h9 | h9
       ·exact hnt i hi (h9 ▸ e)
       ·rw [h9] at e
        simp at e
        have := (HUN.out i hi).2
        omega
    ·have ht : l.take (n + 1) = l.take n ++ [v] := by rw [List.take_add_one, HV.out]; rfl
     rw [HYS.out, ht, cont_append, cont_append, HDA.out]
     simp [cont, HHU.out]
   case measure => simp [intOf]; omega
  ·obtain rfl : n = l.length := by omega
   have e1 : decide ((l.length : Int) < (l.length : Int)) = false := decide_eq_false (by omega)
   have e2 : decide (l.length < l.length) = false := decide_eq_false (by omega)
   go_wp2_with fail
   go_ret
   refine ⟨t, c, k, rfl, by rw [HDA.out, List.take_length], HOWN.out.ownV.made HBL.out HLO.out, fun i hi => HOWN.out.lt i hi, O⟩
theorem results_entry1 {fn : Func} {p : Tmp} (h : fn.results = #[.cell p 41]) {tmps : Array Value} {w : World} {b : Nat} {x0 : ByteArray} {f : Nat → Int} {s : Value} (hp : tmps.getD p undef = .pointer (some ⟨b, 0, none⟩)) (hc : Cel b 41 #[.string x0, .int .i64 (f 0), .int .i64 (f 1), .int .i64 (f 2), .int .i64 (f 3), .int .i64 (f 4), .int .i64 (f 5), .int .i64 (f 6), .int .i64 (f 7), s] w) :
  (results fn tmps).run Try.prog w = .ok (.agg #[.string x0, .int .i64 (f 0), .int .i64 (f 1), .int .i64 (f 2), .int .i64 (f 3), .int .i64 (f 4), .int .i64 (f 5), .int .i64 (f 6), .int .i64 (f 7), s]) w := by
 obtain ⟨d, hd⟩ : ∃ d, Try.prog.underlying 41 = some (.struct d) := ⟨_, Try.underlying41⟩
 exact results_cell_row h tmps w b 41 _ (0, 0) (.struct d) hp hc.is hd rfl (by kernel_rfl)
theorem results_dig1 {fn : Func} {p : Tmp} (h : fn.results = #[.cell p 44]) {tmps : Array Value} {w : World} {b : Nat} {x0 : ByteArray} {f : Nat → Int} {s : Value} (hp : tmps.getD p undef = .pointer (some ⟨b, 0, none⟩)) (hc : Cel b 44 #[.string x0, .int .i64 (f 0), .int .i64 (f 1), .int .i64 (f 2), .int .i64 (f 3), .int .i64 (f 4), .int .i64 (f 5), .int .i64 (f 6), .int .i64 (f 7), s] w) :
  (results fn tmps).run Try.prog w = .ok (.agg #[.string x0, .int .i64 (f 0), .int .i64 (f 1), .int .i64 (f 2), .int .i64 (f 3), .int .i64 (f 4), .int .i64 (f 5), .int .i64 (f 6), .int .i64 (f 7), s]) w := by
 obtain ⟨d, hd⟩ : ∃ d, Try.prog.underlying 44 = some (.struct d) := ⟨_, Try.underlying44⟩
 exact results_cell_row h tmps w b 44 _ (0, 0) (.struct d) hp hc.is hd rfl (by kernel_rfl)
theorem Made.offD' {D : Nat → Prop} {N : Nat} {w w' : World} {a : Option Addr} {cap : Nat} {l : List V} (h : Made N w a cap l) (o : Off D w w') (ha : ∀ i, blk a = some i → ¬ D i) (hv : ∀ v ∈ l, ∀ i, blk v.ad = some i → ¬ D i) : Made N w' a cap l :=
 ⟨h.row.offD o (fun c _ hc => ha c hc) (fun v hx c _ hc => hv v hx c hc), fun v hx => ⟨(h.own v hx).1.off o (fun c _ hc => hv v hx c hc), (h.own v hx).2⟩, h.lo⟩
set_option maxHeartbeats 2000000 in
theorem xplain1_any (v : E) (w : World) (hr : Row w v.a v.cap v.l) (hl : v.l.length ≤ 1000) :
  Calls Try.prog 12 #[.agg #[.string v.key, .int .i64 (v.f 0), .int .i64 (v.f 1), .int .i64 (v.f 2), .int .i64 (v.f 3), .int .i64 (v.f 4), .int .i64 (v.f 5), .int .i64 (v.f 6), .int .i64 (v.f 7), .slice v.a v.l.length v.cap]] w fun e w' => ∃ (t : Option Addr) (c : Nat) (k : List V), e = .returned (.agg #[.string v.key, .int .i64 (v.f 0), .int .i64 (v.f 1), .int .i64 (v.f 2), .int .i64 (v.f 3), .int .i64 (v.f 4), .int .i64 (v.f 5), .int .i64 (v.f 6), .int .i64 (v.f 7), .slice t k.length c]) ∧ cont k = cont v.l ∧ Made w.heap.size w' t c k ∧ (∀ i, blk t = some i → i < w'.heap.size) ∧ Off (fun _ => False) w w' := by
 obtain ⟨W, hW⟩ : ∃ W, W = (w.alloc (.cells #[.string v.key, .int .i64 (v.f 0), .int .i64 (v.f 1), .int .i64 (v.f 2), .int .i64 (v.f 3), .int .i64 (v.f 4), .int .i64 (v.f 5), .int .i64 (v.f 6), .int .i64 (v.f 7), .slice v.a v.l.length v.cap] 41)).alloc (.cells #[.string ⟨#[]⟩, .int .i64 0, .int .i64 0, .int .i64 0, .int .i64 0, .int .i64 0, .int .i64 0, .int .i64 0, .int .i64 0, .slice none 0 0] 41) := ⟨_, rfl⟩
 have O : Off (fun _ => False) w W := by rw [hW]; exact ((Off.refl _ w).alloc _).alloc _
 have C0 : Cel w.heap.size 41 #[.string v.key, .int .i64 (v.f 0), .int .i64 (v.f 1), .int .i64 (v.f 2), .int .i64 (v.f 3), .int .i64 (v.f 4), .int .i64 (v.f 5), .int .i64 (v.f 6), .int .i64 (v.f 7), .slice v.a v.l.length v.cap] W := by rw [hW]; exact (Cel.new w _ _).alloc _
 have C1 : Cel (w.heap.size + 1) 41 #[.string ⟨#[]⟩, .int .i64 0, .int .i64 0, .int .i64 0, .int .i64 0, .int .i64 0, .int .i64 0, .int .i64 0, .int .i64 0, .slice none 0 0] W := by rw [hW]; exact Cel.new1 w _ _ _
 have R0 := hr.off O
 have HR : Hid _ := R0
 have HLN : Hid _ := hl
 have HO : Hid _ := O
 have HC0 : Hid _ := C0
 have HC1 : Hid _ := C1
 have HCL : Hid (w.heap.size + 1 < W.heap.size) := C1.lt
 go_enter Try.func12, Try.ntmps12
 go_upto_region 1 with fail
 rw [← hW]
 clear hW O C0 C1 R0 hr hl
 obtain ⟨b, hb⟩ : ∃ b, b = w.heap.size := ⟨_, rfl⟩
 rw [← hb] at HC0 HC1 ⊢
 have HB : Hid (b = w.heap.size) := hb
 clear hb
 obtain ⟨x0, x1, x2, x3, x4, x5, x6, x7, x8, x9⟩ := celw10 HC0.out
 go_wp2_with fail
 refine (xcopyAllV_any v.a v.cap v.l _ HR.out HLN.out).mono ?_
 rintro e w1 ⟨t, c, k, rfl, hk, hm, hu, o1⟩
 have HHK : Hid (cont k = cont v.l) := hk
 have HMD : Hid _ := hm
 have HLT : Hid (∀ i, blk t = some i → i < w1.heap.size) := hu
 clear hk hm hu
 clear x0 x1 x2 x3 x4 x5 x6 x7 x8 x9
 have D0 := HC0.out.off o1 (fun h => h)
 have HD1 : Hid _ := HC1.out.off o1 (fun h => h)
 have HO1 : Hid _ := HO.out.trans o1 (fun _ _ h => h)
 have HOW : Hid _ := o1
 obtain ⟨x0, x1, x2, x3, x4, x5, x6, x7, x8, x9⟩ := celw10 D0
 have fz := D0.free
 have HD0 : Hid _ := D0
 clear D0 o1 HC0 HC1
 go_upto_region 2 with fail
 have E0 : Cel b 41 #[.string v.key, .int .i64 (v.f 0), .int .i64 (v.f 1), .int .i64 (v.f 2), .int .i64 (v.f 3), .int .i64 (v.f 4), .int .i64 (v.f 5), .int .i64 (v.f 6), .int .i64 (v.f 7), .slice t k.length c] (w1.setCell ⟨b, 9, none⟩ (.slice t k.length c)) := HD0.out.set 9 _
 have E1 := HD1.out.other (p := ⟨b, 9, none⟩) (by simp) (.slice t k.length c)
 have OS : Off (fun c => c = b) w1 (w1.setCell ⟨b, 9, none⟩ (.slice t k.length c)) := (Off.refl (fun c => c = b) w1).setCell (p := ⟨b, 9, none⟩) (.inl rfl) _
 have OW : Off (fun _ => False) w (w1.setCell ⟨b, 9, none⟩ (.slice t k.length c)) := HO1.out.setCell (p := ⟨b, 9, none⟩) (.inr (by have := HB.out; show _ ≤ b; omega)) _
 have HWS : Hid (b + 2 ≤ W.heap.size) := by have := HD1.out.lt; have h2 := HCL.out; have h3 := HB.out; show _ ≤ _; omega
 generalize w1.setCell ⟨b, 9, none⟩ (.slice t k.length c) = V at E0 E1 OS OW ⊢
 clear x0 x1 x2 x3 x4 x5 x6 x7 x8 x9 fz
 obtain ⟨x0, x1, x2, x3, x4, x5, x6, x7, x8, x9⟩ := celw10 E0
 obtain ⟨y0, y1, y2, y3, y4, y5, y6, y7, y8, y9⟩ := celw10 E1
 have fz := E1.free
 have HE1 : Hid _ := E1
 have HOS : Hid _ := OS
 have HOV : Hid _ := OW
 clear E0 E1 OS OW
 go_wp2_with fail
 refine bodyPost_ret (results_entry1 rfl rfl (HE1.out.wrwAll (vs := [.string v.key, .int .i64 (v.f 0), .int .i64 (v.f 1), .int .i64 (v.f 2), .int .i64 (v.f 3), .int .i64 (v.f 4), .int .i64 (v.f 5), .int .i64 (v.f 6), .int .i64 (v.f 7), .slice t k.length c]) rfl)) rfl ?_
 have OF := off_wrw (D := fun c => c = b + 1) (g := b + 1) (us := [.string v.key, .int .i64 (v.f 0), .int .i64 (v.f 1), .int .i64 (v.f 2), .int .i64 (v.f 3), .int .i64 (v.f 4), .int .i64 (v.f 5), .int .i64 (v.f 6), .int .i64 (v.f 7), .slice t k.length c]) (o := 0) (Off.refl _ V) (.inl rfl)
 refine ⟨t, c, k, rfl, HHK.out, ?_, fun i hi => Nat.lt_of_lt_of_le (HLT.out i hi) (Nat.le_trans HOS.out.size OF.size), off_wrw (g := b + 1) (us := [.string v.key, .int .i64 (v.f 0), .int .i64 (v.f 1), .int .i64 (v.f 2), .int .i64 (v.f 3), .int .i64 (v.f 4), .int .i64 (v.f 5), .int .i64 (v.f 6), .int .i64 (v.f 7), .slice t k.length c]) HOV.out (.inr (by have := HB.out; omega))⟩
 refine ((HMD.out.offN (D := fun c => c = b) HOS.out (fun i hi e => by have e : i = b := e; have := HWS.out; omega)).offN (D := fun c => c = b + 1) (off_wrw (g := b + 1) (us := [.string v.key, .int .i64 (v.f 0), .int .i64 (v.f 1), .int .i64 (v.f 2), .int .i64 (v.f 3), .int .i64 (v.f 4), .int .i64 (v.f 5), .int .i64 (v.f 6), .int .i64 (v.f 7), .slice t k.length c]) (Off.refl _ V) (.inl rfl)) (fun i hi e => by have e : i = b + 1 := e; have := HWS.out; omega)).mono ?_
 have := HB.out
 have := HWS.out
 omega
set_option maxHeartbeats 2000000 in
theorem xplain2_any (v : G) (w : World) (hr : RowD w v.a v.cap v.ds) (hl : v.ds.length ≤ 1000) :
  Calls Try.prog 16 #[.agg #[.string v.key, .int .i64 (v.f 0), .int .i64 (v.f 1), .int .i64 (v.f 2), .int .i64 (v.f 3), .int .i64 (v.f 4), .int .i64 (v.f 5), .int .i64 (v.f 6), .int .i64 (v.f 7), .slice v.a v.ds.length v.cap]] w fun e w' => ∃ (t : Option Addr) (c : Nat), e = .returned (.agg #[.string v.key, .int .i64 (v.f 0), .int .i64 (v.f 1), .int .i64 (v.f 2), .int .i64 (v.f 3), .int .i64 (v.f 4), .int .i64 (v.f 5), .int .i64 (v.f 6), .int .i64 (v.f 7), .slice t v.ds.length c]) ∧ RowD w' t c v.ds ∧ (∀ i, blk t = some i → w.heap.size ≤ i ∧ i < w'.heap.size) ∧ Off (fun _ => False) w w' := by
 obtain ⟨W, hW⟩ : ∃ W, W = (w.alloc (.cells #[.string v.key, .int .i64 (v.f 0), .int .i64 (v.f 1), .int .i64 (v.f 2), .int .i64 (v.f 3), .int .i64 (v.f 4), .int .i64 (v.f 5), .int .i64 (v.f 6), .int .i64 (v.f 7), .slice v.a v.ds.length v.cap] 44)).alloc (.cells #[.string ⟨#[]⟩, .int .i64 0, .int .i64 0, .int .i64 0, .int .i64 0, .int .i64 0, .int .i64 0, .int .i64 0, .int .i64 0, .slice none 0 0] 44) := ⟨_, rfl⟩
 have O : Off (fun _ => False) w W := by rw [hW]; exact ((Off.refl _ w).alloc _).alloc _
 have C0 : Cel w.heap.size 44 #[.string v.key, .int .i64 (v.f 0), .int .i64 (v.f 1), .int .i64 (v.f 2), .int .i64 (v.f 3), .int .i64 (v.f 4), .int .i64 (v.f 5), .int .i64 (v.f 6), .int .i64 (v.f 7), .slice v.a v.ds.length v.cap] W := by rw [hW]; exact (Cel.new w _ _).alloc _
 have C1 : Cel (w.heap.size + 1) 44 #[.string ⟨#[]⟩, .int .i64 0, .int .i64 0, .int .i64 0, .int .i64 0, .int .i64 0, .int .i64 0, .int .i64 0, .int .i64 0, .slice none 0 0] W := by rw [hW]; exact Cel.new1 w _ _ _
 have R0 := hr.off O
 have HR : Hid _ := R0
 have HLN : Hid _ := hl
 have HO : Hid _ := O
 have HC0 : Hid _ := C0
 have HC1 : Hid _ := C1
 have HCL : Hid (w.heap.size + 1 < W.heap.size) := C1.lt
 go_enter Try.func16, Try.ntmps16
 go_upto_region 1 with fail
 rw [← hW]
 clear hW O C0 C1 R0 hr hl
 obtain ⟨b, hb⟩ : ∃ b, b = w.heap.size := ⟨_, rfl⟩
 rw [← hb] at HC0 HC1 ⊢
 have HB : Hid (b = w.heap.size) := hb
 clear hb
 obtain ⟨x0, x1, x2, x3, x4, x5, x6, x7, x8, x9⟩ := celw10 HC0.out
 go_wp2_with fail
 refine (dclone_big v.a v.cap v.ds _ HR.out.newsX.1 HR.out.newsX.2 (by have := HLN.out; omega)).mono ?_
 rintro e w1 ⟨t, c, rfl, hm, hn, o1⟩
 have HMD : Hid _ := hm
 have HN : Hid _ := hn
 clear hm hn
 clear x0 x1 x2 x3 x4 x5 x6 x7 x8 x9
 have D0 := HC0.out.off o1 (fun h => h)
 have HD1 : Hid _ := HC1.out.off o1 (fun h => h)
 have HO1 : Hid _ := HO.out.trans o1 (fun _ _ h => h)
 have HOW : Hid _ := o1
 obtain ⟨x0, x1, x2, x3, x4, x5, x6, x7, x8, x9⟩ := celw10 D0
 have fz := D0.free
 have HD0 : Hid _ := D0
 clear D0 o1 HC0 HC1
 go_upto_region 2 with fail
 have E0 : Cel b 44 #[.string v.key, .int .i64 (v.f 0), .int .i64 (v.f 1), .int .i64 (v.f 2), .int .i64 (v.f 3), .int .i64 (v.f 4), .int .i64 (v.f 5), .int .i64 (v.f 6), .int .i64 (v.f 7), .slice t v.ds.length c] (w1.setCell ⟨b, 9, none⟩ (.slice t v.ds.length c)) := HD0.out.set 9 _
 have E1 := HD1.out.other (p := ⟨b, 9, none⟩) (by simp) (.slice t v.ds.length c)
 have OS : Off (fun c => c = b) w1 (w1.setCell ⟨b, 9, none⟩ (.slice t v.ds.length c)) := (Off.refl (fun c => c = b) w1).setCell (p := ⟨b, 9, none⟩) (.inl rfl) _
 have OW : Off (fun _ => False) w (w1.setCell ⟨b, 9, none⟩ (.slice t v.ds.length c)) := HO1.out.setCell (p := ⟨b, 9, none⟩) (.inr (by have := HB.out; show _ ≤ b; omega)) _
 have HWS : Hid (b + 2 ≤ W.heap.size) := by have h2 := HCL.out; have h3 := HB.out; show _ ≤ _; omega
 have HLT : Hid (∀ i, blk t = some i → i < w1.heap.size) := fun i hi => HMD.out.lt i hi
 generalize w1.setCell ⟨b, 9, none⟩ (.slice t v.ds.length c) = V at E0 E1 OS OW ⊢
 clear x0 x1 x2 x3 x4 x5 x6 x7 x8 x9 fz
 obtain ⟨x0, x1, x2, x3, x4, x5, x6, x7, x8, x9⟩ := celw10 E0
 obtain ⟨y0, y1, y2, y3, y4, y5, y6, y7, y8, y9⟩ := celw10 E1
 have fz := E1.free
 have HE1 : Hid _ := E1
 have HOS : Hid _ := OS
 have HOV : Hid _ := OW
 clear E0 E1 OS OW
 go_wp2_with fail
 refine bodyPost_ret (results_dig1 rfl rfl (HE1.out.wrwAll (vs := [.string v.key, .int .i64 (v.f 0), .int .i64 (v.f 1), .int .i64 (v.f 2), .int .i64 (v.f 3), .int .i64 (v.f 4), .int .i64 (v.f 5), .int .i64 (v.f 6), .int .i64 (v.f 7), .slice t v.ds.length c]) rfl)) rfl ?_
 have OF := off_wrw (D := fun c => c = b + 1) (g := b + 1) (us := [.string v.key, .int .i64 (v.f 0), .int .i64 (v.f 1), .int .i64 (v.f 2), .int .i64 (v.f 3), .int .i64 (v.f 4), .int .i64 (v.f 5), .int .i64 (v.f 6), .int .i64 (v.f 7), .slice t v.ds.length c]) (o := 0) (Off.refl _ V) (.inl rfl)
 refine ⟨t, c, rfl, ?_, fun i hi => ⟨?_, ?_⟩, off_wrw (g := b + 1) (us := [.string v.key, .int .i64 (v.f 0), .int .i64 (v.f 1), .int .i64 (v.f 2), .int .i64 (v.f 3), .int .i64 (v.f 4), .int .i64 (v.f 5), .int .i64 (v.f 6), .int .i64 (v.f 7), .slice t v.ds.length c]) HOV.out (.inr (by have := HB.out; omega))⟩
 ·refine (HMD.out.rowX.offD (D := fun c => c = b) HOS.out (fun i _ hi e => ?_)).offD OF (fun i _ hi e => ?_)
  ·have e : i = b := e
   have := HN.out i hi
   have := HWS.out
   omega
  ·have e : i = b + 1 := e
   have := HN.out i hi
   have := HWS.out
   omega
 ·have := HN.out i hi
  have := HB.out
  have := HWS.out
  omega
 ·exact Nat.lt_of_lt_of_le (HLT.out i hi) (Nat.le_trans HOS.out.size OF.size)
set_option maxHeartbeats 2000000 in
theorem xcopyAllE_any (a : Option Addr) (cap : Nat) (l : List E) (w : World) (h : Ens w a cap l) (hl : l.length ≤ 1000) (hv : ∀ x ∈ l, x.l.length ≤ 1000) :
  Calls Try.prog 11 #[.slice a l.length cap, .func (.func 12) #[] #[]] w fun e w' => ∃ (t : Option Addr) (c : Nat) (k : List E), e = .returned (.slice t k.length c) ∧ k.map E.abs = l.map E.abs ∧ (∀ v, Off (fun c => c < w.heap.size) w' v → Ens v t c k) ∧ Off (fun _ => False) w w' := by
 have hb := h.bound
 have HRW : Hid _ := h
 have HVS : Hid _ := hv
 clear h hv
 go_enter Try.func11, Try.ntmps11
 go_wp2_with fail
 go_loopw [5, 10] (fun x y wr => ∃ (n : Nat) (t : Option Addr) (c : Nat) (k : List E), y = .int .i64 (n : Int) ∧ x = .slice t k.length c ∧ n ≤ l.length ∧ k.length = n ∧ OwnG 41 10 ecs wr t c k ∧ (∀ i, blk t = some i → w.heap.size ≤ i) ∧ (∀ x ∈ k, Made w.heap.size wr x.a x.cap x.l ∧ (∀ i, blk x.a = some i → i < wr.heap.size ∧ blk t ≠ some i) ∧ ∀ v ∈ x.l, ∀ i, blk v.ad = some i → blk t ≠ some i) ∧ k.map E.abs = (l.take n).map E.abs ∧ Off (fun _ => False) w wr) (fun _ y _ => (l.length - intOf y).toNat)
 case atStart => exact ⟨0, none, 0, [], rfl, rfl, by omega, rfl, OwnG.nil _ _ _ _, fun i hi => by simp [blk] at hi, by simp, by simp, Off.refl _ w⟩
 case round =>
  obtain ⟨n, t, c, k, rfl, rfl, hn, hkn, own, hlo, hbl, hdat, O⟩ := hrel
  have hr1 := HRW.out.off O
  have HOWN : Hid _ := own
  have HLO : Hid _ := hlo
  have HBL : Hid (∀ x ∈ k, Made w.heap.size wr x.a x.cap x.l ∧ (∀ i, blk x.a = some i → i < wr.heap.size ∧ blk t ≠ some i) ∧ ∀ v ∈ x.l, ∀ i, blk v.ad = some i → blk t ≠ some i) := hbl
  have HDA : Hid (k.map E.abs = (l.take n).map E.abs) := hdat
  have HKN : Hid (k.length = n) := hkn
  clear own hlo hbl hdat hkn
  by_cases hlt : n < l.length
  ·have g1b : decide ((n : Int) < (l.length : Int)) = true := decide_eq_true (by omega)
   have g2b : decide (n < l.length) = true := decide_eq_true hlt
   obtain ⟨v, hv⟩ : ∃ v, l[n]? = some v := ⟨_, List.getElem?_eq_getElem hlt⟩
   obtain ⟨b, off, rfl, k10, hvo⟩ := hr1.at_ n v hv
   obtain ⟨k0, k1, k2, k3, k4, k5, k6, k7, k8, k9⟩ := ent10 k10
   clear k10
   have hix := idx_ents hlt
   have HVL : Hid _ := HVS.out v (List.mem_of_getElem? hv)
   have HV : Hid _ := hv
   have HO : Hid _ := O
   go_upto_region 5 with fail
   have CN := Cel.new wr 41 #[.string v.key, .int .i64 (v.f 0), .int .i64 (v.f 1), .int .i64 (v.f 2), .int .i64 (v.f 3), .int .i64 (v.f 4), .int .i64 (v.f 5), .int .i64 (v.f 6), .int .i64 (v.f 7), .slice v.a v.l.length v.cap]
   have ON : Off (fun _ => False) wr (wr.alloc (.cells #[.string v.key, .int .i64 (v.f 0), .int .i64 (v.f 1), .int .i64 (v.f 2), .int .i64 (v.f 3), .int .i64 (v.f 4), .int .i64 (v.f 5), .int .i64 (v.f 6), .int .i64 (v.f 7), .slice v.a v.l.length v.cap] 41)) := (Off.refl _ wr).alloc _
   generalize hvv : wr.alloc (.cells #[.string v.key, .int .i64 (v.f 0), .int .i64 (v.f 1), .int .i64 (v.f 2), .int .i64 (v.f 3), .int .i64 (v.f 4), .int .i64 (v.f 5), .int .i64 (v.f 6), .int .i64 (v.f 7), .slice v.a v.l.length v.cap] 41) = wr1 at CN ON ⊢
   generalize hpp : wr.heap.size = pp at CN ⊢
   have vo1 := hvo.off ON
   have HO1s : Hid (wr.heap.size ≤ wr1.heap.size) := ON.size
   clear hvv hpp k0 k1 k2 k3 k4 k5 k6 k7 k8 k9 hix hv hvo hr1 O
   have HON : Hid _ := ON
   have z0 := CN.cell 0
   have z1 := CN.cell 1
   have z2 := CN.cell 2
   have z3 := CN.cell 3
   have z4 := CN.cell 4
   have z5 := CN.cell 5
   have z6 := CN.cell 6
   have z7 := CN.cell 7
   have z8 := CN.cell 8
   have z9 := CN.cell 9
   simp at z0 z1 z2 z3 z4 z5 z6 z7 z8 z9
   clear CN ON
   go_wp2_with fail
   refine (xplain1_any v _ vo1 HVL.out).mono ?_
   rintro e w3 ⟨t1, c1, k1s, rfl, hk1s, hmd, hlt1, o3⟩
   have HMD : Hid _ := hmd
   have HLT1 : Hid (∀ i, blk t1 = some i → i < w3.heap.size) := hlt1
   have HK1 : Hid (cont k1s = cont v.l) := hk1s
   clear hmd hlt1 hk1s
   have HO3 : Hid (Off (fun _ => False) wr w3) := HON.out.trans o3 (fun _ _ h => h)
   clear z0 z1 z2 z3 z4 z5 z6 z7 z8 z9 vo1 o3
   obtain ⟨u, hu⟩ : ∃ u, u = (⟨v.key, v.f, t1, c1, k1s⟩ : E) := ⟨_, rfl⟩
   have HU : Hid (u = (⟨v.key, v.f, t1, c1, k1s⟩ : E)) := hu
   have ecu : ecs u = [.string v.key, .int .i64 (v.f 0), .int .i64 (v.f 1), .int .i64 (v.f 2), .int .i64 (v.f 3), .int .i64 (v.f 4), .int .i64 (v.f 5), .int .i64 (v.f 6), .int .i64 (v.f 7), .slice t1 k1s.length c1] := by rw [hu]; rfl
   clear hu
   have OA : Off (fun _ => False) w3 (w3.alloc (.cells #[.string v.key, .int .i64 (v.f 0), .int .i64 (v.f 1), .int .i64 (v.f 2), .int .i64 (v.f 3), .int .i64 (v.f 4), .int .i64 (v.f 5), .int .i64 (v.f 6), .int .i64 (v.f 7), .slice t1 k1s.length c1] 41)) := (Off.refl _ w3).alloc _
   have O4 := HO3.out.trans OA (fun _ _ h => h)
   have own4 := HOWN.out.off O4 (fun _ _ _ h => h)
   have cn := Cel.new w3 41 #[.string v.key, .int .i64 (v.f 0), .int .i64 (v.f 1), .int .i64 (v.f 2), .int .i64 (v.f 3), .int .i64 (v.f 4), .int .i64 (v.f 5), .int .i64 (v.f 6), .int .i64 (v.f 7), .slice t1 k1s.length c1]
   have hcn : ∀ j x, (ecs u)[j]? = some x → (w3.alloc (.cells #[.string v.key, .int .i64 (v.f 0), .int .i64 (v.f 1), .int .i64 (v.f 2), .int .i64 (v.f 3), .int .i64 (v.f 4), .int .i64 (v.f 5), .int .i64 (v.f 6), .int .i64 (v.f 7), .slice t1 k1s.length c1] 41)).cell? ⟨w3.heap.size, j, none⟩ = some x := fun j x hj => by
    rw [cn.cell j]
    rw [ecu] at hj
    simpa using hj
   have HO4 : Hid _ := O4
   have HOA : Hid _ := OA
   have hk1 : k.length ≤ 1000000 := by have := HKN.out; omega
   clear O4 OA cn ecu
   go_wp2_with (at_builtin; refine wpList_appG rfl (.tmp 14) (.tmp 18) Try.underlying22 Try.infoE rfl (by decide) (by decide) ecs_len ecs_one rfl t c k rfl own4 w3.heap.size 1 u rfl hcn hk1 ?_; intro t' c' w' ys hys own' off' at')
   have HYS : Hid _ := hys.out
   have hyl : ys.length = k.length + 1 := by rw [hys.out]; simp
   have HYL : Hid _ := hyl
   clear hys hyl hk1
   have HOW' : Hid _ := own'
   have HOF' : Hid _ := off'
   clear own' off' own4 hcn
   go_wp2_with fail
   go_roundw
   case rel =>
    have hyl := HYL.out
    have hkn := HKN.out
    have s3 := HO3.out.size
    have s4 := HO4.out.size
    simp only [World.size_alloc] at s4 at'
    have so := HO.out.size
    have tf : ∀ i, blk t' = some i → w.heap.size ≤ i := fun i hi => by
     rcases at' with h9 | h9
     ·exact HLO.out i (h9 ▸ hi)
     ·rw [h9] at hi; simp at hi; omega
    have hnt : ∀ i, blk t1 = some i → blk t ≠ some i := fun i hi e => by
     have h1 := HMD.out.lo i hi
     have h2 := HOWN.out.lt i e
     have h3 := HO1s.out
     omega
    have hnd : ∀ y ∈ k1s, ∀ i, blk y.ad = some i → blk t ≠ some i := fun y hy i hi e => by
     have h1 := ((HMD.out.own y hy).2 i hi).1
     have h2 := HOWN.out.lt i e
     have h3 := HO1s.out
     omega
    refine ⟨n + 1, t', c', ys, by go_num, rfl, by omega, by omega, HOW'.out, tf, fun x hx => ?_, ?_, (HO.out.trans HO4.out (fun _ _ h => h)).trans HOF'.out (fun i hi e => by have := HLO.out i e; omega)⟩
    ·rw [HYS.out, List.mem_append, List.mem_singleton] at hx
     rcases hx with hx | rfl
     ·refine ⟨((HBL.out x hx).1.off HO4.out).offD' HOF'.out (fun i hi => ((HBL.out x hx).2.1 i hi).2) (fun y hy i hi => (HBL.out x hx).2.2 y hy i hi), fun i hi => ⟨Nat.lt_of_lt_of_le ((HBL.out x hx).2.1 i hi).1 (Nat.le_trans HO4.out.size HOF'.out.size), ?_⟩, fun y hy i hi => ?_⟩
      ·rcases at' with h9 | h9
       ·rw [h9]
        exact ((HBL.out x hx).2.1 i hi).2
       ·rw [h9]
        intro e
        simp at e
        have := ((HBL.out x hx).2.1 i hi).1
        omega
      ·rcases at' with h9 | h9
       ·rw [h9]
        exact (HBL.out x hx).2.2 y hy i hi
       ·rw [h9]
        intro e
        simp at e
        have := ((HBL.out x hx).1.own y hy).1.lt i hi
        omega
     ·rw [HU.out]
      refine ⟨?_, fun i hi => ⟨?_, ?_⟩, fun y hy i hi => ?_⟩
      ·exact ((HMD.out.off HOA.out).offD' HOF'.out (fun i hi => hnt i hi) (fun y hy i hi => hnd y hy i hi)).mono (by have := HO.out.size; have := HO1s.out; omega)
      ·exact Nat.lt_of_lt_of_le (HLT1.out i hi) (Nat.le_trans HOA.out.size HOF'.out.size)
      ·rcases at' with h9 | h9
       ·rw [h9]
        exact hnt i hi
       ·rw [h9]
        intro e
        simp at e
        have := HLT1.out i hi
        omega
      ·rcases at' with h9 | h9
       ·rw [h9]
        exact hnd y hy i hi
       ·rw [h9]
        intro e
        simp at e
        have := (HMD.out.own y hy).1.lt i hi
        omega
    ·have ht : l.take (n + 1) = l.take n ++ [v] := by rw [List.take_add_one, HV.out]; rfl
     rw [HYS.out, ht, List.map_append, List.map_append, HDA.out, List.map_singleton, List.map_singleton, HU.out]
     rw [show E.abs (⟨v.key, v.f, t1, c1, k1s⟩ : E) = E.abs v from by show K.mk _ _ _ = K.mk _ _ _; rw [show cont k1s = cont v.l from HK1.out]]
   case measure => simp [intOf]; omega
  ·obtain rfl : n = l.length := by omega
   have g1b : decide ((l.length : Int) < (l.length : Int)) = false := decide_eq_false (by omega)
   have g2b : decide (l.length < l.length) = false := decide_eq_false (by omega)
   go_wp2_with fail
   go_ret
   exact ⟨t, c, k, rfl, by rw [HDA.out, List.take_length], (fun v o => (HOWN.out.off o (fun c h e => by have := HLO.out c (by first | exact h | exact e); omega)).ens (fun x hx => ((HBL.out x hx).1.offN o (fun i hi h => by omega)).row)), O⟩
set_option maxHeartbeats 2000000 in
theorem xcopyAllD_any (a : Option Addr) (cap : Nat) (l : List G) (w : World) (h : Dgs w a cap l) (hl : l.length ≤ 1000) (hv : ∀ x ∈ l, x.ds.length ≤ 1000) :
  Calls Try.prog 15 #[.slice a l.length cap, .func (.func 16) #[] #[]] w fun e w' => ∃ (t : Option Addr) (c : Nat) (k : List G), e = .returned (.slice t k.length c) ∧ k.map G.abs = l.map G.abs ∧ (∀ v, Off (fun c => c < w.heap.size) w' v → Dgs v t c k) ∧ Off (fun _ => False) w w' := by
 have hb := h.bound
 have HRW : Hid _ := h
 have HVS : Hid _ := hv
 clear h hv
 go_enter Try.func15, Try.ntmps15
 go_wp2_with fail
 go_loopw [5, 10] (fun x y wr => ∃ (n : Nat) (t : Option Addr) (c : Nat) (k : List G), y = .int .i64 (n : Int) ∧ x = .slice t k.length c ∧ n ≤ l.length ∧ k.length = n ∧ OwnG 44 10 gcs wr t c k ∧ (∀ i, blk t = some i → w.heap.size ≤ i) ∧ (∀ x ∈ k, RowD wr x.a x.cap x.ds ∧ (∀ i, blk x.a = some i → i < wr.heap.size ∧ blk t ≠ some i) ∧ ∀ i, blk x.a = some i → w.heap.size ≤ i) ∧ k.map G.abs = (l.take n).map G.abs ∧ Off (fun _ => False) w wr) (fun _ y _ => (l.length - intOf y).toNat)
 case atStart => exact ⟨0, none, 0, [], rfl, rfl, by omega, rfl, OwnG.nil _ _ _ _, fun i hi => by simp [blk] at hi, by simp, by simp, Off.refl _ w⟩
 case round =>
  obtain ⟨n, t, c, k, rfl, rfl, hn, hkn, own, hlo, hbl, hdat, O⟩ := hrel
  have hr1 := HRW.out.off O
  have HOWN : Hid _ := own
  have HLO : Hid _ := hlo
  have HBL : Hid (∀ x ∈ k, RowD wr x.a x.cap x.ds ∧ (∀ i, blk x.a = some i → i < wr.heap.size ∧ blk t ≠ some i) ∧ ∀ i, blk x.a = some i → w.heap.size ≤ i) := hbl
  have HDA : Hid (k.map G.abs = (l.take n).map G.abs) := hdat
  have HKN : Hid (k.length = n) := hkn
  clear own hlo hbl hdat hkn
  by_cases hlt : n < l.length
  ·have g1b : decide ((n : Int) < (l.length : Int)) = true := decide_eq_true (by omega)
   have g2b : decide (n < l.length) = true := decide_eq_true hlt
   obtain ⟨v, hv⟩ : ∃ v, l[n]? = some v := ⟨_, List.getElem?_eq_getElem hlt⟩
   obtain ⟨b, off, rfl, k10, hvo⟩ := hr1.at_ n v hv
   obtain ⟨k0, k1, k2, k3, k4, k5, k6, k7, k8, k9⟩ := dg10 k10
   clear k10
   have hix := idx_dgs hlt
   have HVL : Hid _ := HVS.out v (List.mem_of_getElem? hv)
   have HV : Hid _ := hv
   have HO : Hid _ := O
   go_upto_region 5 with fail
   have CN := Cel.new wr 44 #[.string v.key, .int .i64 (v.f 0), .int .i64 (v.f 1), .int .i64 (v.f 2), .int .i64 (v.f 3), .int .i64 (v.f 4), .int .i64 (v.f 5), .int .i64 (v.f 6), .int .i64 (v.f 7), .slice v.a v.ds.length v.cap]
   have ON : Off (fun _ => False) wr (wr.alloc (.cells #[.string v.key, .int .i64 (v.f 0), .int .i64 (v.f 1), .int .i64 (v.f 2), .int .i64 (v.f 3), .int .i64 (v.f 4), .int .i64 (v.f 5), .int .i64 (v.f 6), .int .i64 (v.f 7), .slice v.a v.ds.length v.cap] 44)) := (Off.refl _ wr).alloc _
   generalize hvv : wr.alloc (.cells #[.string v.key, .int .i64 (v.f 0), .int .i64 (v.f 1), .int .i64 (v.f 2), .int .i64 (v.f 3), .int .i64 (v.f 4), .int .i64 (v.f 5), .int .i64 (v.f 6), .int .i64 (v.f 7), .slice v.a v.ds.length v.cap] 44) = wr1 at CN ON ⊢
   generalize hpp : wr.heap.size = pp at CN ⊢
   have vo1 := hvo.off ON
   have HO1s : Hid (wr.heap.size ≤ wr1.heap.size) := ON.size
   clear hvv hpp k0 k1 k2 k3 k4 k5 k6 k7 k8 k9 hix hv hvo hr1 O
   have HON : Hid _ := ON
   have z0 := CN.cell 0
   have z1 := CN.cell 1
   have z2 := CN.cell 2
   have z3 := CN.cell 3
   have z4 := CN.cell 4
   have z5 := CN.cell 5
   have z6 := CN.cell 6
   have z7 := CN.cell 7
   have z8 := CN.cell 8
   have z9 := CN.cell 9
   simp at z0 z1 z2 z3 z4 z5 z6 z7 z8 z9
   clear CN ON
   go_wp2_with fail
   refine (xplain2_any v _ vo1 HVL.out).mono ?_
   rintro e w3 ⟨t1, c1, rfl, hmd, hlt1, o3⟩
   have HMD : Hid _ := hmd
   have HLT1 : Hid (∀ i, blk t1 = some i → wr1.heap.size ≤ i ∧ i < w3.heap.size) := hlt1
   clear hmd hlt1
   have HO3 : Hid (Off (fun _ => False) wr w3) := HON.out.trans o3 (fun _ _ h => h)
   clear z0 z1 z2 z3 z4 z5 z6 z7 z8 z9 vo1 o3
   obtain ⟨u, hu⟩ : ∃ u, u = (⟨v.key, v.f, t1, c1, v.ds⟩ : G) := ⟨_, rfl⟩
   have HU : Hid (u = (⟨v.key, v.f, t1, c1, v.ds⟩ : G)) := hu
   have ecu : gcs u = [.string v.key, .int .i64 (v.f 0), .int .i64 (v.f 1), .int .i64 (v.f 2), .int .i64 (v.f 3), .int .i64 (v.f 4), .int .i64 (v.f 5), .int .i64 (v.f 6), .int .i64 (v.f 7), .slice t1 v.ds.length c1] := by rw [hu]; rfl
   clear hu
   have OA : Off (fun _ => False) w3 (w3.alloc (.cells #[.string v.key, .int .i64 (v.f 0), .int .i64 (v.f 1), .int .i64 (v.f 2), .int .i64 (v.f 3), .int .i64 (v.f 4), .int .i64 (v.f 5), .int .i64 (v.f 6), .int .i64 (v.f 7), .slice t1 v.ds.length c1] 44)) := (Off.refl _ w3).alloc _
   have O4 := HO3.out.trans OA (fun _ _ h => h)
   have own4 := HOWN.out.off O4 (fun _ _ _ h => h)
   have cn := Cel.new w3 44 #[.string v.key, .int .i64 (v.f 0), .int .i64 (v.f 1), .int .i64 (v.f 2), .int .i64 (v.f 3), .int .i64 (v.f 4), .int .i64 (v.f 5), .int .i64 (v.f 6), .int .i64 (v.f 7), .slice t1 v.ds.length c1]
   have hcn : ∀ j x, (gcs u)[j]? = some x → (w3.alloc (.cells #[.string v.key, .int .i64 (v.f 0), .int .i64 (v.f 1), .int .i64 (v.f 2), .int .i64 (v.f 3), .int .i64 (v.f 4), .int .i64 (v.f 5), .int .i64 (v.f 6), .int .i64 (v.f 7), .slice t1 v.ds.length c1] 44)).cell? ⟨w3.heap.size, j, none⟩ = some x := fun j x hj => by
    rw [cn.cell j]
    rw [ecu] at hj
    simpa using hj
   have HO4 : Hid _ := O4
   have HOA : Hid _ := OA
   have hk1 : k.length ≤ 1000000 := by have := HKN.out; omega
   clear O4 OA cn ecu
   go_wp2_with (at_builtin; refine wpList_appG rfl (.tmp 14) (.tmp 18) Try.underlying23 Try.infoG rfl (by decide) (by decide) gcs_len gcs_one rfl t c k rfl own4 w3.heap.size 1 u rfl hcn hk1 ?_; intro t' c' w' ys hys own' off' at')
   have HYS : Hid _ := hys.out
   have hyl : ys.length = k.length + 1 := by rw [hys.out]; simp
   have HYL : Hid _ := hyl
   clear hys hyl hk1
   have HOW' : Hid _ := own'
   have HOF' : Hid _ := off'
   clear own' off' own4 hcn
   go_wp2_with fail
   go_roundw
   case rel =>
    have hyl := HYL.out
    have hkn := HKN.out
    have s3 := HO3.out.size
    have s4 := HO4.out.size
    simp only [World.size_alloc] at s4 at'
    have so := HO.out.size
    have tf : ∀ i, blk t' = some i → w.heap.size ≤ i := fun i hi => by
     rcases at' with h9 | h9
     ·exact HLO.out i (h9 ▸ hi)
     ·rw [h9] at hi; simp at hi; omega
    have hnt : ∀ i, blk t1 = some i → blk t ≠ some i := fun i hi e => by
     have h1 := (HLT1.out i hi).1
     have h2 := HOWN.out.lt i e
     have h3 := HO1s.out
     omega
    refine ⟨n + 1, t', c', ys, by go_num, rfl, by omega, by omega, HOW'.out, tf, fun x hx => ?_, ?_, (HO.out.trans HO4.out (fun _ _ h => h)).trans HOF'.out (fun i hi e => by have := HLO.out i e; omega)⟩
    ·rw [HYS.out, List.mem_append, List.mem_singleton] at hx
     rcases hx with hx | rfl
     ·refine ⟨((HBL.out x hx).1.off HO4.out).offD HOF'.out (fun i _ hi => ((HBL.out x hx).2.1 i hi).2), fun i hi => ⟨Nat.lt_of_lt_of_le ((HBL.out x hx).2.1 i hi).1 (Nat.le_trans HO4.out.size HOF'.out.size), ?_⟩, (HBL.out x hx).2.2⟩
      rcases at' with h9 | h9
      ·rw [h9]
       exact ((HBL.out x hx).2.1 i hi).2
      ·rw [h9]
       intro e
       simp at e
       have := ((HBL.out x hx).2.1 i hi).1
       omega
     ·rw [HU.out]
      refine ⟨?_, fun i hi => ⟨?_, ?_⟩, fun i hi => by have h1 := (HLT1.out i hi).1; have h2 := HO.out.size; have h3 := HO1s.out; omega⟩
      ·exact (HMD.out.off HOA.out).offD HOF'.out (fun i _ hi => hnt i hi)
      ·exact Nat.lt_of_lt_of_le (HLT1.out i hi).2 (Nat.le_trans HOA.out.size HOF'.out.size)
      ·rcases at' with h9 | h9
       ·rw [h9]
        exact hnt i hi
       ·rw [h9]
        intro e
        simp at e
        have := (HLT1.out i hi).2
        omega
    ·have ht : l.take (n + 1) = l.take n ++ [v] := by rw [List.take_add_one, HV.out]; rfl
     rw [HYS.out, ht, List.map_append, List.map_append, HDA.out, List.map_singleton, List.map_singleton, HU.out]
     rw [show G.abs (⟨v.key, v.f, t1, c1, v.ds⟩ : G) = G.abs v from by rfl]
   case measure => simp [intOf]; omega
  ·obtain rfl : n = l.length := by omega
   have g1b : decide ((l.length : Int) < (l.length : Int)) = false := decide_eq_false (by omega)
   have g2b : decide (l.length < l.length) = false := decide_eq_false (by omega)
   go_wp2_with fail
   go_ret
   exact ⟨t, c, k, rfl, by rw [HDA.out, List.take_length], (fun v o => (HOWN.out.off o (fun c h e => by have := HLO.out c (by first | exact h | exact e); omega)).dgs (fun x hx => (HBL.out x hx).1.offD o (fun i _ hi h => by have := (HBL.out x hx).2.2 i hi; omega))), O⟩
structure Copd (N : Nat) (w : World) (tE : Option Addr) (cE : Nat) (ks : List E) (tD : Option Addr) (cD : Nat) (hs : List G) (tM : Option Addr) (cM : Nat) (e1 : List E) (g1 : List G) (m1 : List (Int × Int)) : Prop where
 es : ks.map E.abs = e1.map E.abs
 gs : hs.map G.abs = g1.map G.abs
 at_ : ∀ v, Off (fun c => c < N) w v → Ens v tE cE ks ∧ Dgs v tD cD hs ∧ RowD v tM cM m1
set_option maxHeartbeats 4000000 in
theorem xPlain_core (m X : Mg) (e1 : List E) (g1 : List G) (m1 : List (Int × Int)) (w : World) (hx : MsgAt w X e1 g1 m1) (hb : ∀ W, Calls Try.prog 10 #[(.agg #[.int .i64 m.k, .int .i64 m.fr, .int .i64 m.tn, .int .i64 m.op, .int .i64 m.fo, .string m.key, .int .i64 m.bk, .slice m.ea m.el m.ec, .slice m.da m.dl m.dc, .slice m.ma m.ml m.mc])] W fun e w' => e = .returned ((.agg #[.int .i64 X.k, .int .i64 X.fr, .int .i64 X.tn, .int .i64 X.op, .int .i64 X.fo, .string X.key, .int .i64 X.bk, .slice X.ea X.el X.ec, .slice X.da X.dl X.dc, .slice X.ma X.ml X.mc])) ∧ Off (fun _ => False) W w')
  (hln : e1.length ≤ 1000 ∧ (∀ x ∈ e1, x.l.length ≤ 1000) ∧ g1.length ≤ 1000 ∧ (∀ x ∈ g1, x.ds.length ≤ 1000) ∧ m1.length ≤ 1000) :
  Calls Try.prog 6 #[(.agg #[.int .i64 m.k, .int .i64 m.fr, .int .i64 m.tn, .int .i64 m.op, .int .i64 m.fo, .string m.key, .int .i64 m.bk, .slice m.ea m.el m.ec, .slice m.da m.dl m.dc, .slice m.ma m.ml m.mc])] w fun e w' => ∃ (tE : Option Addr) (cE : Nat) (ks : List E) (tD : Option Addr) (cD : Nat) (hs : List G) (tM : Option Addr) (cM : Nat), e = .returned (.agg #[.int .i64 X.k, .int .i64 X.fr, .int .i64 X.tn, .int .i64 X.op, .int .i64 X.fo, .string X.key, .int .i64 X.bk, .slice tE ks.length cE, .slice tD hs.length cD, .slice tM m1.length cM]) ∧ Copd w.heap.size w' tE cE ks tD cD hs tM cM e1 g1 m1 ∧ Off (fun _ => False) w w' := by
 have HBR : Hid (∀ W, Calls Try.prog 10 #[(.agg #[.int .i64 m.k, .int .i64 m.fr, .int .i64 m.tn, .int .i64 m.op, .int .i64 m.fo, .string m.key, .int .i64 m.bk, .slice m.ea m.el m.ec, .slice m.da m.dl m.dc, .slice m.ma m.ml m.mc])] W fun e w' => e = .returned ((.agg #[.int .i64 X.k, .int .i64 X.fr, .int .i64 X.tn, .int .i64 X.op, .int .i64 X.fo, .string X.key, .int .i64 X.bk, .slice X.ea X.el X.ec, .slice X.da X.dl X.dc, .slice X.ma X.ml X.mc])) ∧ Off (fun _ => False) W w') := hb
 obtain ⟨k, fr, tn, op, fo, key, bk, ea, el, ec, da, dl, dc, ma, ml, mc⟩ := X
 obtain rfl : el = e1.length := hx.el
 obtain rfl : dl = g1.length := hx.dl
 obtain rfl : ml = m1.length := hx.ml
 show Calls Try.prog 6 #[(.agg #[.int .i64 m.k, .int .i64 m.fr, .int .i64 m.tn, .int .i64 m.op, .int .i64 m.fo, .string m.key, .int .i64 m.bk, .slice m.ea m.el m.ec, .slice m.da m.dl m.dc, .slice m.ma m.ml m.mc])] w fun e w' => ∃ (tE : Option Addr) (cE : Nat) (ks : List E) (tD : Option Addr) (cD : Nat) (hs : List G) (tM : Option Addr) (cM : Nat), e = .returned (.agg #[.int .i64 k, .int .i64 fr, .int .i64 tn, .int .i64 op, .int .i64 fo, .string key, .int .i64 bk, .slice tE ks.length cE, .slice tD hs.length cD, .slice tM m1.length cM]) ∧ Copd w.heap.size w' tE cE ks tD cD hs tM cM e1 g1 m1 ∧ Off (fun _ => False) w w'
 obtain ⟨W, hW⟩ : ∃ W, W = (w.alloc (.cells #[.int .i64 m.k, .int .i64 m.fr, .int .i64 m.tn, .int .i64 m.op, .int .i64 m.fo, .string m.key, .int .i64 m.bk, .slice m.ea m.el m.ec, .slice m.da m.dl m.dc, .slice m.ma m.ml m.mc] 26)).alloc (.cells #[.int .i64 0, .int .i64 0, .int .i64 0, .int .i64 0, .int .i64 0, .string ⟨#[]⟩, .int .i64 0, .slice none 0 0, .slice none 0 0, .slice none 0 0] 26) := ⟨_, rfl⟩
 have O : Off (fun _ => False) w W := by rw [hW]; exact ((Off.refl _ w).alloc _).alloc _
 have C0 : Cel w.heap.size 26 #[.int .i64 m.k, .int .i64 m.fr, .int .i64 m.tn, .int .i64 m.op, .int .i64 m.fo, .string m.key, .int .i64 m.bk, .slice m.ea m.el m.ec, .slice m.da m.dl m.dc, .slice m.ma m.ml m.mc] W := by rw [hW]; exact (Cel.new w _ _).alloc _
 have C1 : Cel (w.heap.size + 1) 26 #[.int .i64 0, .int .i64 0, .int .i64 0, .int .i64 0, .int .i64 0, .string ⟨#[]⟩, .int .i64 0, .slice none 0 0, .slice none 0 0, .slice none 0 0] W := by rw [hW]; exact Cel.new1 w _ _ _
 have HX : Hid _ := hx
 have HLN : Hid _ := hln
 clear hx hb hln
 go_enter Try.func6, Try.ntmps6
 go_upto_region 1 with fail
 rw [← hW]
 obtain ⟨b, hb⟩ : ∃ b, b = w.heap.size := ⟨_, rfl⟩
 rw [← hb] at C0 C1 ⊢
 have HB : Hid (b = w.heap.size) := hb
 have HO0 : Hid _ := O
 have HC0 : Hid _ := C0
 have HC1 : Hid _ := C1
 clear hb hW O C0 C1
 obtain ⟨x0, x1, x2, x3, x4, x5, x6, x7, x8, x9⟩ := celw10 HC0.out
 go_wp2_with fail
 refine (HBR.out _).mono ?_
 rintro e w1 ⟨rfl, o⟩
 clear x0 x1 x2 x3 x4 x5 x6 x7 x8 x9 HBR
 have D9 := HC0.out.off o (fun h => h)
 obtain ⟨x0, x1, x2, x3, x4, x5, x6, x7, x8, x9⟩ := celw10 D9
 have fz := D9.free
 have HD9 : Hid _ := D9
 have HO1 : Hid _ := HO0.out.trans o (fun _ _ h => h)
 have HZ1 : Hid _ := HC1.out.off o (fun h => h)
 clear D9 o HC0 HC1 HO0
 go_upto_region 2 with fail
 have C2 : Cel b 26 #[.int .i64 k, .int .i64 fr, .int .i64 tn, .int .i64 op, .int .i64 fo, .string key, .int .i64 bk, .slice ea e1.length ec, .slice da g1.length dc, .slice ma m1.length mc] ((((((((((w1.setCell ⟨b, 0, none⟩ (.int .i64 k)).setCell ⟨b, 1, none⟩ (.int .i64 fr)).setCell ⟨b, 2, none⟩ (.int .i64 tn)).setCell ⟨b, 3, none⟩ (.int .i64 op)).setCell ⟨b, 4, none⟩ (.int .i64 fo)).setCell ⟨b, 5, none⟩ (.string key)).setCell ⟨b, 6, none⟩ (.int .i64 bk)).setCell ⟨b, 7, none⟩ (.slice ea e1.length ec)).setCell ⟨b, 8, none⟩ (.slice da g1.length dc)).setCell ⟨b, 9, none⟩ (.slice ma m1.length mc)) := HD9.out.wrwAll (vs := [.int .i64 k, .int .i64 fr, .int .i64 tn, .int .i64 op, .int .i64 fo, .string key, .int .i64 bk, .slice ea e1.length ec, .slice da g1.length dc, .slice ma m1.length mc]) rfl
 have O2 : Off (fun c => c = b) w1 ((((((((((w1.setCell ⟨b, 0, none⟩ (.int .i64 k)).setCell ⟨b, 1, none⟩ (.int .i64 fr)).setCell ⟨b, 2, none⟩ (.int .i64 tn)).setCell ⟨b, 3, none⟩ (.int .i64 op)).setCell ⟨b, 4, none⟩ (.int .i64 fo)).setCell ⟨b, 5, none⟩ (.string key)).setCell ⟨b, 6, none⟩ (.int .i64 bk)).setCell ⟨b, 7, none⟩ (.slice ea e1.length ec)).setCell ⟨b, 8, none⟩ (.slice da g1.length dc)).setCell ⟨b, 9, none⟩ (.slice ma m1.length mc)) := off_wrw (g := b) (us := [.int .i64 k, .int .i64 fr, .int .i64 tn, .int .i64 op, .int .i64 fo, .string key, .int .i64 bk, .slice ea e1.length ec, .slice da g1.length dc, .slice ma m1.length mc]) (Off.refl _ w1) (.inl rfl)
 generalize ((((((((((w1.setCell ⟨b, 0, none⟩ (.int .i64 k)).setCell ⟨b, 1, none⟩ (.int .i64 fr)).setCell ⟨b, 2, none⟩ (.int .i64 tn)).setCell ⟨b, 3, none⟩ (.int .i64 op)).setCell ⟨b, 4, none⟩ (.int .i64 fo)).setCell ⟨b, 5, none⟩ (.string key)).setCell ⟨b, 6, none⟩ (.int .i64 bk)).setCell ⟨b, 7, none⟩ (.slice ea e1.length ec)).setCell ⟨b, 8, none⟩ (.slice da g1.length dc)).setCell ⟨b, 9, none⟩ (.slice ma m1.length mc)) = V at C2 O2 ⊢
 clear x0 x1 x2 x3 x4 x5 x6 x7 x8 x9 fz HD9
 obtain ⟨x0, x1, x2, x3, x4, x5, x6, x7, x8, x9⟩ := celw10 C2
 have HC : Hid _ := C2
 have HO : Hid (Off (fun _ => False) w V) := HO1.out.trans O2 (fun i hi e => by have e : i = b := e; have := HB.out; omega)
 have HZ : Hid (Cel (b + 1) 26 #[.int .i64 0, .int .i64 0, .int .i64 0, .int .i64 0, .int .i64 0, .string ⟨#[]⟩, .int .i64 0, .slice none 0 0, .slice none 0 0, .slice none 0 0] V) := HZ1.out.off O2 (fun e => by omega)
 have HVS : Hid (b + 1 < V.heap.size) := HZ.out.lt
 clear C2 O2 HO1 HZ1
 go_wp2_with fail
 refine (xcopyAllE_any ea ec e1 _ (HX.out.off HO.out).ens HLN.out.1 HLN.out.2.1).mono ?_
 rintro e w2 ⟨tE, cE, ks, rfl, hks, hE, o⟩
 clear x0 x1 x2 x3 x4 x5 x6 x7 x8 x9
 have D0 := HC.out.off o (fun h => h)
 have HO2 : Hid _ := HO.out.trans o (fun _ _ h => h)
 have HZ2 : Hid _ := HZ.out.off o (fun h => h)
 have HSZ0 : Hid (V.heap.size ≤ w2.heap.size) := o.size
 have HKS : Hid (ks.map E.abs = e1.map E.abs) := hks
 have HE : Hid (∀ v, Off (fun c => c < V.heap.size) w2 v → Ens v tE cE ks) := hE
 clear hks hE
 obtain ⟨x0, x1, x2, x3, x4, x5, x6, x7, x8, x9⟩ := celw10 D0
 have fz := D0.free
 have E0 : Cel b 26 #[.int .i64 k, .int .i64 fr, .int .i64 tn, .int .i64 op, .int .i64 fo, .string key, .int .i64 bk, .slice tE ks.length cE, .slice da g1.length dc, .slice ma m1.length mc] (w2.setCell ⟨b, 7, none⟩ (.slice tE ks.length cE)) := D0.set 7 _
 have OS : Off (fun c => c = b) w2 (w2.setCell ⟨b, 7, none⟩ (.slice tE ks.length cE)) := (Off.refl (fun c => c = b) w2).setCell (p := ⟨b, 7, none⟩) (.inl rfl) _
 clear o D0 HC HO HZ
 go_upto_region 3 with fail
 generalize w2.setCell ⟨b, 7, none⟩ (.slice tE ks.length cE) = V0 at E0 OS ⊢
 clear x0 x1 x2 x3 x4 x5 x6 x7 x8 x9 fz
 obtain ⟨x0, x1, x2, x3, x4, x5, x6, x7, x8, x9⟩ := celw10 E0
 have HC : Hid _ := E0
 have HOS0 : Hid (Off (fun c => c = b) w2 V0) := OS
 have HO : Hid (Off (fun _ => False) w V0) := HO2.out.trans OS (fun i hi e => by have e : i = b := e; have := HB.out; omega)
 have HZ : Hid (Cel (b + 1) 26 #[.int .i64 0, .int .i64 0, .int .i64 0, .int .i64 0, .int .i64 0, .string ⟨#[]⟩, .int .i64 0, .slice none 0 0, .slice none 0 0, .slice none 0 0] V0) := HZ2.out.off OS (fun e => by omega)
 clear E0 OS HO2 HZ2
 go_wp2_with fail
 refine (xcopyAllD_any da dc g1 _ (HX.out.off HO.out).dgs HLN.out.2.2.1 HLN.out.2.2.2.1).mono ?_
 rintro e w3 ⟨tD, cD, hs, rfl, hhs, hD, o⟩
 clear x0 x1 x2 x3 x4 x5 x6 x7 x8 x9
 have D1 := HC.out.off o (fun h => h)
 have HO2 : Hid _ := HO.out.trans o (fun _ _ h => h)
 have HZ2 : Hid _ := HZ.out.off o (fun h => h)
 have HHS : Hid (hs.map G.abs = g1.map G.abs) := hhs
 have HD : Hid (∀ v, Off (fun c => c < V0.heap.size) w3 v → Dgs v tD cD hs) := hD
 have HE3 : Hid (Off (fun _ => False) V0 w3) := o
 clear hhs hD
 obtain ⟨x0, x1, x2, x3, x4, x5, x6, x7, x8, x9⟩ := celw10 D1
 have fz := D1.free
 have E0 : Cel b 26 #[.int .i64 k, .int .i64 fr, .int .i64 tn, .int .i64 op, .int .i64 fo, .string key, .int .i64 bk, .slice tE ks.length cE, .slice tD hs.length cD, .slice ma m1.length mc] (w3.setCell ⟨b, 8, none⟩ (.slice tD hs.length cD)) := D1.set 8 _
 have OS : Off (fun c => c = b) w3 (w3.setCell ⟨b, 8, none⟩ (.slice tD hs.length cD)) := (Off.refl (fun c => c = b) w3).setCell (p := ⟨b, 8, none⟩) (.inl rfl) _
 clear o D1 HC HO HZ
 go_upto_region 4 with fail
 generalize w3.setCell ⟨b, 8, none⟩ (.slice tD hs.length cD) = V1 at E0 OS ⊢
 clear x0 x1 x2 x3 x4 x5 x6 x7 x8 x9 fz
 obtain ⟨x0, x1, x2, x3, x4, x5, x6, x7, x8, x9⟩ := celw10 E0
 have HC : Hid _ := E0
 have HOS1 : Hid (Off (fun c => c = b) w3 V1) := OS
 have HO : Hid (Off (fun _ => False) w V1) := HO2.out.trans OS (fun i hi e => by have e : i = b := e; have := HB.out; omega)
 have HZ : Hid (Cel (b + 1) 26 #[.int .i64 0, .int .i64 0, .int .i64 0, .int .i64 0, .int .i64 0, .string ⟨#[]⟩, .int .i64 0, .slice none 0 0, .slice none 0 0, .slice none 0 0] V1) := HZ2.out.off OS (fun e => by omega)
 clear E0 OS HO2 HZ2
 go_wp2_with fail
 refine (mclone_big ma mc m1 _ (HX.out.off HO.out).mbs.newsX.1 (HX.out.off HO.out).mbs.newsX.2 (by have := HLN.out.2.2.2.2; omega)).mono ?_
 rintro e w4 ⟨tM, cM, rfl, hM, hMn, o⟩
 clear x0 x1 x2 x3 x4 x5 x6 x7 x8 x9
 have D2 := HC.out.off o (fun h => h)
 have HO2 : Hid _ := HO.out.trans o (fun _ _ h => h)
 have HZ2 : Hid _ := HZ.out.off o (fun h => h)
 have HMO : Hid _ := hM
 have HMN : Hid (∀ i, blk tM = some i → V1.heap.size ≤ i) := hMn
 have HE4 : Hid (Off (fun _ => False) V1 w4) := o
 clear hM hMn
 obtain ⟨x0, x1, x2, x3, x4, x5, x6, x7, x8, x9⟩ := celw10 D2
 have fz := D2.free
 have E0 : Cel b 26 #[.int .i64 k, .int .i64 fr, .int .i64 tn, .int .i64 op, .int .i64 fo, .string key, .int .i64 bk, .slice tE ks.length cE, .slice tD hs.length cD, .slice tM m1.length cM] (w4.setCell ⟨b, 9, none⟩ (.slice tM m1.length cM)) := D2.set 9 _
 have OS : Off (fun c => c = b) w4 (w4.setCell ⟨b, 9, none⟩ (.slice tM m1.length cM)) := (Off.refl (fun c => c = b) w4).setCell (p := ⟨b, 9, none⟩) (.inl rfl) _
 clear o D2 HC HO HZ
 go_upto_region 5 with fail
 generalize w4.setCell ⟨b, 9, none⟩ (.slice tM m1.length cM) = V2 at E0 OS ⊢
 clear x0 x1 x2 x3 x4 x5 x6 x7 x8 x9 fz
 obtain ⟨x0, x1, x2, x3, x4, x5, x6, x7, x8, x9⟩ := celw10 E0
 have HC : Hid _ := E0
 have HOS2 : Hid (Off (fun c => c = b) w4 V2) := OS
 have HO : Hid (Off (fun _ => False) w V2) := HO2.out.trans OS (fun i hi e => by have e : i = b := e; have := HB.out; omega)
 have HZ : Hid (Cel (b + 1) 26 #[.int .i64 0, .int .i64 0, .int .i64 0, .int .i64 0, .int .i64 0, .string ⟨#[]⟩, .int .i64 0, .slice none 0 0, .slice none 0 0, .slice none 0 0] V2) := HZ2.out.off OS (fun e => by omega)
 clear E0 OS HO2 HZ2
 have HZ5 : Hid _ := HZ.out
 obtain ⟨y0, y1, y2, y3, y4, y5, y6, y7, y8, y9⟩ := celw10 HZ5.out
 have fzz := HZ5.out.free
 have HSV : Hid (b + 1 < V.heap.size) := HVS.out
 go_wp2_with fail
 refine bodyPost_ret (results_msg (x := (⟨k, fr, tn, op, fo, key, bk, tE, ks.length, cE, tD, hs.length, cD, tM, m1.length, cM⟩ : Mg)) rfl rfl (HZ5.out.wrwAll (vs := mcs (⟨k, fr, tn, op, fo, key, bk, tE, ks.length, cE, tD, hs.length, cD, tM, m1.length, cM⟩ : Mg)) rfl)) rfl ?_
 have OF := off_wrw (D := fun c => c = b + 1) (g := b + 1) (us := mcs (⟨k, fr, tn, op, fo, key, bk, tE, ks.length, cE, tD, hs.length, cD, tM, m1.length, cM⟩ : Mg)) (o := 0) (Off.refl _ V2) (.inl rfl)
 have P2 : Off (fun c => c < V.heap.size) w4 _ := (HOS2.out.mono (E := fun c => c < V.heap.size) (fun i _ e => by have e : i = b := e; have := HSV.out; omega)).trans (OF.mono (E := fun c => c < V.heap.size) (fun i _ e => by have e : i = b + 1 := e; have := HSV.out; omega)) (fun _ _ h => h)
 have P1 : Off (fun c => c < V.heap.size) w3 _ := ((HOS1.out.mono (E := fun c => c < V.heap.size) (fun i _ e => by have e : i = b := e; have := HSV.out; omega)).trans (HE4.out.mono (fun _ _ h => h.elim)) (fun _ _ h => h)).trans P2 (fun _ _ h => h)
 have P0 : Off (fun c => c < V.heap.size) w2 _ := ((HOS0.out.mono (E := fun c => c < V.heap.size) (fun i _ e => by have e : i = b := e; have := HSV.out; omega)).trans (HE3.out.mono (fun _ _ h => h.elim)) (fun _ _ h => h)).trans P1 (fun _ _ h => h)
 have hs0 := HSZ0.out
 refine ⟨tE, cE, ks, tD, cD, hs, tM, cM, rfl, ⟨HKS.out, HHS.out, fun v o => ?_⟩, HO.out.trans OF (fun i hi e => by have e : i = b + 1 := e; have := HB.out; omega)⟩
 have o' : Off (fun c => c < V.heap.size) _ v := o.mono (fun i _ h => by have h : i < w.heap.size := h; have := HSV.out; have := HB.out; show i < _; omega)
 have q0 : V0.heap.size ≥ V.heap.size := by have := HOS0.out.size; omega
 have q1 : V1.heap.size ≥ V0.heap.size := by have := HE3.out.size; have := HOS1.out.size; omega
 refine ⟨HE.out v (P0.trans o' (fun _ _ h => h)), HD.out v ((P1.trans o' (fun _ _ h => h)).mono (fun i _ h => by have h : i < V.heap.size := h; show i < _; omega)), ?_⟩
 exact HMO.out.rowX.offD (P2.trans o' (fun _ _ h => h)) (fun i _ hi h => by have h : i < V.heap.size := h; have := HMN.out i hi; omega)
end Go.Proofs.Ytmbphlkohlggfab
