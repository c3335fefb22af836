/- Items of several texts. -/
import Derived.Deep.RegionHeld
import Derived.Deep.Cut
import Derived.Laws.EntriesVeiled
import Derived.Test.YtpnnpdfmoldiiaaQSrt
import Derived.Test.YtpnnpdfmoldiiaaQBks
namespace Go.Proofs.Ytpnnpdfmoldiiaa
open Go.RowKit
structure Sta (p : Nat) (t : Option Addr) (c : Nat) (ds : List (Int × Int)) (w : World) : Prop where
 cel : Cel p 25 #[.slice t ds.length c] w
 row : RowD w t c ds
 sor : SrD ds
 few : ds.length ≤ 1000
theorem Sta.off {p : Nat} {t : Option Addr} {c : Nat} {ds : List (Int × Int)} {w w' : World} (h : Sta p t c ds w) (o : Off (fun _ => False) w w') : Sta p t c ds w' := ⟨h.cel.off o (fun h => h), h.row.off o, h.sor, h.few⟩
theorem stands_iff {l : List A} {d : Int × Int} : stands l d = true ↔ d ∈ l.map dotA := by
 unfold stands
 simp only [List.any_eq_true, decide_eq_true_eq, List.mem_map, dotA]
 constructor
 ·rintro ⟨x, hx, h1, h2⟩
  exact ⟨x, hx, by rw [h1, h2]⟩
 ·rintro ⟨x, hx, rfl⟩
  exact ⟨x, hx, rfl, rfl⟩
set_option maxRecDepth 100000 in
set_option maxHeartbeats 2000000 in
theorem standing_any (a : Option Addr) (cap : Nat) (l : List V) (w : World) (hr : Row w a cap l) (hl : l.length ≤ 1000) :
  Calls Try.prog 54 #[.slice a l.length cap] w fun e w' => ∃ (p : Nat) (t : Option Addr) (c : Nat) (ds : List (Int × Int)), e = .returned (.func (.func 94) #[] #[.pointer (some ⟨p, 0, none⟩)]) ∧ Sta p t c ds w' ∧ (∀ d, d ∈ ds ↔ stands (cont l) d = true) ∧ Off (fun _ => False) w w' := by
 have C0 := Cel.new w 25 #[.slice none 0 0]
 have O0 : Off (fun _ => False) w (w.alloc (.cells #[.slice none 0 0] 25)) := (Off.refl _ w).alloc _
 have hz : w.heap.size < (w.alloc (.cells #[.slice none 0 0] 25)).heap.size := by simp [World.size_alloc]
 have HR : Hid _ := hr
 clear hr
 go_enter Try.func54, Try.ntmps54
 go_upto_region 2 with fail
 generalize hq : w.heap.size = q at C0 hz ⊢
 have HQ : Hid (w.heap.size ≤ q) := by show _ ≤ _; omega
 generalize hv : w.alloc (.cells #[.slice none 0 0] 25) = W at C0 O0 hz ⊢
 clear hq hv
 have HC0 : Hid _ := C0
 have HO0 : Hid _ := O0
 clear C0 O0
 go_wp2_with fail
 go_loopw [8] (fun y wr => ∃ (n : Nat) (t : Option Addr) (c : Nat) (ds : List (Int × Int)), y = .int .i64 (n : Int) ∧ n ≤ l.length ∧ ds.length = n ∧ OwnG 81 2 dcs wr t c ds ∧ (∀ k, blk t = some k → q < k) ∧ ds = (cont (l.take n)).map dotA ∧ Cel q 25 #[.slice t ds.length c] wr ∧ Off (fun _ => False) w wr ∧ q < wr.heap.size) (fun y _ => (l.length - intOf y).toNat)
 case atStart => exact ⟨0, none, 0, [], rfl, by omega, rfl, OwnG.nil _ _ _ _, fun k hk => by simp [blk] at hk, by simp [cont], HC0.out, HO0.out, hz⟩
 case round =>
  clear HO0 HC0 hz
  obtain ⟨n, t, c, ds, rfl, hn, hdn, own, hlo, hdat, cq, O, hqs⟩ := hrel
  have hr1 := HR.out.off O
  have HOWN : Hid _ := own
  have HLO : Hid _ := hlo
  have HDA : Hid _ := hdat
  have HDN : Hid _ := hdn
  have HCQ : Hid _ := cq
  have HO : Hid _ := O
  clear own hlo hdat hdn cq O
  by_cases hlt : n < l.length
  ·have e1 : decide ((n : Int) < (l.length : Int)) = true := decide_eq_true (by omega)
   have e2 : decide (n < l.length) = true := decide_eq_true hlt
   obtain ⟨v, hv⟩ : ∃ v, l[n]? = some v := ⟨_, List.getElem?_eq_getElem hlt⟩
   obtain ⟨b, off, rfl, kk, -⟩ := hr1.at_ n v hv
   obtain ⟨k0, k1, k2, k3⟩ := kk
   have HV : Hid _ := hv
   clear hv hr1
   have CV := Cel.new wr 117 #[.int .i64 v.node, .int .i64 v.num, .slice v.ad v.data.length v.cap, .bool v.dead]
   have OV : Off (fun _ => False) wr (wr.alloc (.cells #[.int .i64 v.node, .int .i64 v.num, .slice v.ad v.data.length v.cap, .bool v.dead] 117)) := (Off.refl _ wr).alloc _
   go_upto_region 5 with fail
   generalize hqv : wr.heap.size = qv at CV ⊢
   generalize hvv : wr.alloc (.cells #[.int .i64 v.node, .int .i64 v.num, .slice v.ad v.data.length v.cap, .bool v.dead] 117) = V1 at CV OV ⊢
   clear hqv hvv k0 k1 k2 k3
   obtain ⟨k0, k1, k2, k3⟩ := cel4 CV
   have CQ1 := HCQ.out.off OV (fun h => h)
   have x0 : V1.cell? ⟨q, 0, none⟩ = some (.slice t ds.length c) := CQ1.cell 0
   have OA : Off (fun _ => False) V1 (V1.alloc (.cells #[.int .i64 v.node, .int .i64 v.num] 81)) := (Off.refl _ V1).alloc _
   have own4 := (HOWN.out.off OV (fun _ _ _ h => h)).off OA (fun _ _ _ h => h)
   have cn := Cel.new V1 81 #[.int .i64 v.node, .int .i64 v.num]
   have hcn : ∀ j x, (dcs (v.node, v.num))[j]? = some x → (V1.alloc (.cells #[.int .i64 v.node, .int .i64 v.num] 81)).cell? ⟨V1.heap.size, j, none⟩ = some x := fun j x hj => by
    rw [cn.cell j]
    simpa [dcs] using hj
   have CQ2 := CQ1.off OA (fun h => h)
   have HCQ2 : Hid _ := CQ2
   have HO1 : Hid _ := (HO.out.trans OV (fun _ _ h => h)).trans OA (fun _ _ h => h)
   have HSZ : Hid (q < V1.heap.size) := by show _ < _; have := OV.size; omega
   have hk1 : ds.length ≤ 1000000 := by have := HDN.out; omega
   have HNQ : Hid (¬ blk t = some q) := fun e => by have := HLO.out q e; omega
   clear CQ1 CQ2 OV OA cn CV
   go_wp2_with (at_builtin; refine wpList_appG rfl (.tmp 12) (.tmp 15) Try.underlying25 Try.infoDt rfl (by decide) (by decide) dcs_len dcs_one rfl t c ds rfl own4 V1.heap.size 1 (v.node, v.num) rfl hcn hk1 ?_; intro t' c' w' ys hys own' off' at'; have f5 : w'.frozen? ⟨q, 0, none⟩ = false := (HCQ2.out.off off' HNQ.out).free 0; have c5 : w'.cell? ⟨q, 0, none⟩ = some (.slice t ds.length c) := (HCQ2.out.off off' HNQ.out).cell 0)
   have hyl : ys.length = ds.length + 1 := by rw [hys.out]; simp
   have HYS : Hid _ := hys.out
   have HYL : Hid _ := hyl
   have tf : ∀ i, blk t' = some i → q < i := fun i hi => by
    have h7 := HSZ.out
    simp only [World.size_alloc] at at'
    rcases at' with h9 | h9
    ·exact HLO.out i (h9 ▸ hi)
    ·rw [h9] at hi; simp at hi; omega
   have C5 := HCQ2.out.off off' HNQ.out
   have HW5 : Hid (Off (fun _ => False) w w') := HO1.out.trans off' (fun i hi e => by have := HLO.out i e; have := HQ.out; omega)
   have HC5 : Hid _ := C5
   have HOW' : Hid _ := own'
   have HTF : Hid _ := tf
   have hsz5 : q < w'.heap.size := C5.lt
   clear hys hyl hk1 own' off' own4 hcn C5 tf at' HSZ c5 f5 k0 k1 k2 k3 x0
   go_roundw
   case rel =>
    have hyl := HYL.out
    have hdn := HDN.out
    have OS : Off (fun c => c = q) w' (w'.setCell ⟨q, 0, none⟩ (.slice t' ys.length c')) := (Off.refl (fun c => c = q) w').setCell (p := ⟨q, 0, none⟩) (.inl rfl) _
    refine ⟨n + 1, t', c', ys, by go_num, by omega, by omega, HOW'.out.off OS (fun k _ hk e => by have := HTF.out k hk; omega), HTF.out, ?_, ?_, HW5.out.setCell (.inr HQ.out) _, by simpa using hsz5⟩
    ·have ht : l.take (n + 1) = l.take n ++ [v] := by rw [List.take_add_one, HV.out]; rfl
     rw [HYS.out, ht, cont_append, List.map_append, ← HDA.out]
     simp [cont, dotA, V.abs]
    ·exact HC5.out.set 0 _
   case measure => simp [intOf]; omega
  ·obtain rfl : n = l.length := by omega
   have e1 : decide ((l.length : Int) < (l.length : Int)) = false := decide_eq_false (by omega)
   have e2 : decide (l.length < l.length) = false := decide_eq_false (by omega)
   have x0 : wr.cell? ⟨q, 0, none⟩ = some (.slice t ds.length c) := HCQ.out.cell 0
   clear hr1
   go_wp2_with fail
   refine (dsort_any t c ds _ HOWN.out (by have := HDN.out; omega)).mono ?_
   rintro e w1 ⟨rfl, ds', hl', hp, hs, hrd, o1⟩
   have nq : ¬ blk t = some q := fun e => by have := HLO.out q e; omega
   have C1 := HCQ.out.off o1 nq
   rw [← hl'] at C1
   have HF : Hid (Sta q t c ds' w1) := ⟨C1, hrd, hs, by have := HDN.out; omega⟩
   have HM : Hid (∀ d, d ∈ ds' ↔ stands (cont l) d = true) := fun d => by
    rw [hp.mem_iff, HDA.out, List.take_length, stands_iff]
   have HOF : Hid (Off (fun _ => False) w w1) := HO.out.trans o1 (fun i hi e => by have := HLO.out i e; have := HQ.out; omega)
   clear hl' hp hs hrd o1 nq C1 x0
   go_wp2_with fail
   go_ret
   exact ⟨q, t, c, ds', rfl, HF.out, HM.out, HOF.out⟩
theorem srD_lo {ds : List (Int × Int)} (h : SrD ds) {n m : Nat} {x y d : Int × Int} (hx : ds[n]? = some x) (hy : ds[m]? = some y) (hnm : n ≤ m) (hb : cfD y d < 0) : cfD x d < 0 := by
 by_cases e : n = m
 ·subst e
  rw [hx] at hy
  cases hy
  exact hb
 ·obtain ⟨l1, e1⟩ := List.getElem?_eq_some_iff.1 hx
  obtain ⟨l2, e2⟩ := List.getElem?_eq_some_iff.1 hy
  have := List.pairwise_iff_getElem.1 h n m l1 l2 (by omega)
  rw [e1, e2] at this
  have k1 : ltOf cfD y d = true := decide_eq_true hb
  have k2 : ltOf cfD x d = true := by
   rw [lt_no2] at this
   rw [ltD, lt_iff2] at k1
   rw [ltD, lt_iff2]
   omega
  exact of_decide_eq_true k2
set_option maxRecDepth 100000 in
set_option maxHeartbeats 2000000 in
theorem dsearch_any (t : Option Addr) (c : Nat) (ds : List (Int × Int)) (d : Int × Int) (w : World) (hr : RowD w t c ds) (hs : SrD ds) (hl : ds.length ≤ 1000) :
  Calls Try.prog 95 #[.slice t ds.length c, .agg #[.int .i64 d.1, .int .i64 d.2], .func (.func 93) #[] #[]] w fun e w' => ∃ n : Nat, e = .returned (.tuple #[.int .i64 (n : Int), .bool (decide (d ∈ ds))]) ∧ Off (fun _ => False) w w' := by
 have C0 := Cel.new w 81 #[.int .i64 d.1, .int .i64 d.2]
 have O0 : Off (fun _ => False) w (w.alloc (.cells #[.int .i64 d.1, .int .i64 d.2] 81)) := (Off.refl _ w).alloc _
 have HR : Hid _ := hr
 have HS : Hid _ := hs
 clear hr hs
 go_enter Try.func95, Try.ntmps95
 go_upto_region 1 with fail
 generalize hq : w.heap.size = q at C0 ⊢
 generalize hv : w.alloc (.cells #[.int .i64 d.1, .int .i64 d.2] 81) = W at C0 O0 ⊢
 clear hq hv
 have HC0 : Hid _ := C0
 have HO0 : Hid _ := O0
 clear C0 O0
 go_wp2_with fail
 go_loopw [9, 10] (fun y z wr => ∃ i j : Nat, y = .int .i64 (i : Int) ∧ z = .int .i64 (j : Int) ∧ i ≤ j ∧ j ≤ ds.length ∧ (∀ n x, n < i → ds[n]? = some x → cfD x d < 0) ∧ (∀ n x, j ≤ n → ds[n]? = some x → ¬ cfD x d < 0) ∧ Off (fun _ => False) W wr) (fun y z _ => (intOf z - intOf y).toNat)
 case atStart => exact ⟨0, ds.length, rfl, rfl, by omega, by omega, fun n x hn => by omega, fun n x hn hx => by
  obtain ⟨h, -⟩ := List.getElem?_eq_some_iff.1 hx
  omega, Off.refl _ W⟩
 case round =>
  obtain ⟨i, j, rfl, rfl, hij, hjl, hlo, hhi, O⟩ := hrel
  have HLO : Hid _ := hlo
  have HHI : Hid _ := hhi
  have HO : Hid _ := O
  clear hlo hhi O
  by_cases hlt : i < j
  ·have e1 : decide ((i : Int) < (j : Int)) = true := decide_eq_true (by omega)
   have e2 : decide (i < j) = true := decide_eq_true hlt
   obtain ⟨h, hh⟩ : ∃ h : Nat, h = (i + j) / 2 := ⟨_, rfl⟩
   have hhi : ((i : Int) + (j : Int)) / 2 = (h : Int) := by omega
   have hh1 : i ≤ h := by omega
   have hh2 : h < j := by omega
   clear hh
   have hhl : h < ds.length := by omega
   obtain ⟨x, hx⟩ : ∃ x, ds[h]? = some x := ⟨_, List.getElem?_eq_getElem hhl⟩
   obtain ⟨g, off, rfl, -, -⟩ := HR.out.at_ h x hx
   have LX : Hid (∀ w', Off (fun _ => False) wr w' → w'.cell? ⟨g, off + h * 2, none⟩ = some (.int .i64 x.1) ∧ w'.cell? ⟨g, off + h * 2 + 1, none⟩ = some (.int .i64 x.2)) := fun w' hw' => by
    obtain ⟨g', off', e', k0, k1⟩ := (HR.out.off ((HO0.out.trans HO.out (fun _ _ h => h)).trans hw' (fun _ _ h => h))).at_ h x hx
    simp only [Option.some.injEq, Addr.mk.injEq, and_true] at e'
    obtain ⟨rfl, rfl⟩ := e'
    exact ⟨k0, k1⟩
   have LD : Hid (∀ w', Off (fun _ => False) wr w' → w'.cell? ⟨q, 0, none⟩ = some (.int .i64 d.1) ∧ w'.cell? ⟨q, 1, none⟩ = some (.int .i64 d.2)) := fun w' hw' => by
    have := HC0.out.off (HO.out.trans hw' (fun _ _ h => h)) (fun h => h)
    exact ⟨this.cell 0, this.cell 1⟩
   have HX : Hid _ := hx
   clear hx
   go_upto_region 5 with fail
   refine wp_region_held_drew (S := Off (fun _ => False) wr) (by kernel_rfl) ((Off.refl _ wr).drew) (fun hS => ?_)
   refine take_at (i := 0) 24 (v := .func (.func 93) #[] #[]) rfl rfl (by kernel_rfl) (by kernel_rfl) (by kernel_rfl) (fun _ _ _ h => h) (Or.inl ⟨by rfl, fun w' hw' => by go_simp⟩) hS ?_
   simp only [Act.put, lsA, lsZ, lsS]
   refine take_at (i := 1) 25 (v := .slice (some ⟨g, off, none⟩) ds.length c) rfl rfl (by kernel_rfl) (by kernel_rfl) (by kernel_rfl) (fun _ _ _ h => h) (Or.inl ⟨by rfl, fun w' hw' => by go_simp⟩) hS ?_
   simp only [Act.put, lsA, lsZ, lsS]
   refine take_at (i := 2) 26 (v := .int .i64 (h : Int)) rfl rfl (by kernel_rfl) (by kernel_rfl) (by kernel_rfl) (fun _ _ _ h => h) (Or.inl ⟨by rfl, fun w' hw' => by go_simp⟩) hS ?_
   simp only [Act.put, lsA, lsZ, lsS]
   refine take_at (i := 3) 27 (v := .pointer (some ⟨g, off + h * 2, none⟩)) rfl rfl (by kernel_rfl) (by kernel_rfl) (by kernel_rfl) (fun _ _ _ h => h) (Or.inl ⟨by rfl, fun w' hw' => exec_idx10 rfl (idx_dots hhl c g off w')⟩) hS ?_
   simp only [Act.put, lsA, lsZ, lsS]
   refine take_at (i := 4) 28 (v := .agg #[.int .i64 x.1, .int .i64 x.2]) rfl rfl (by kernel_rfl) (by kernel_rfl) (by kernel_rfl) (fun _ _ _ h => h) (Or.inl ⟨by rfl, fun w' hw' => by obtain ⟨y0, y1⟩ := LX.out w' hw'; go_simp⟩) hS ?_
   simp only [Act.put, lsA, lsZ, lsS]
   refine take_at (i := 5) 29 (v := .agg #[.int .i64 d.1, .int .i64 d.2]) rfl rfl (by kernel_rfl) (by kernel_rfl) (by kernel_rfl) (fun _ _ _ h => h) (Or.inl ⟨by rfl, fun w' hw' => by obtain ⟨y0, y1⟩ := LD.out w' hw'; go_simp⟩) hS ?_
   simp only [Act.put, lsA, lsZ, lsS]
   refine wpAnyH_ready (rs := [6]) (by kernel_rfl) (by simp) ?_
   refine AllReadyH.cons rfl (fun K' hK' => ?_) AllReadyH.nil
   go_simp
   refine (order_any x d _).mono ?_
   rintro e w1 ⟨rfl, o1⟩
   have hS1 := hS.trans o1 (fun _ _ h => h)
   refine hK'.out _ _ hS1 (fun hS => ?_)
   clear hK' K' hS1
   by_cases hr0 : cfD x d < 0
   ·have d1 : decide (cfD x d < 0) = true := decide_eq_true hr0
    have HP : Hid _ := hr0
    clear hr0
    refine take_at (i := 7) 31 (v := .bool true) rfl rfl (by kernel_rfl) (by kernel_rfl) (by kernel_rfl) (fun _ _ _ h => h) (Or.inl ⟨by rfl, fun w' hw' => by go_simp⟩) hS ?_
    simp only [Act.put, lsA, lsZ, lsS]
    refine wpAnyH_done (by kernel_rfl) ?_ _
    go_wp2_with fail
    go_roundw
    case rel =>
     refine ⟨h + 1, j, by go_num, rfl, by omega, by omega, fun n y hn hy => srD_lo HS.out hy HX.out (by omega) HP.out, HHI.out, HO.out.trans hS (fun _ _ h => h)⟩
    case measure => simp [intOf]; omega
   ·have d1 : decide (cfD x d < 0) = false := decide_eq_false hr0
    have HP : Hid _ := hr0
    clear hr0
    refine take_at (i := 7) 31 (v := .bool false) rfl rfl (by kernel_rfl) (by kernel_rfl) (by kernel_rfl) (fun _ _ _ h => h) (Or.inl ⟨by rfl, fun w' hw' => by go_simp⟩) hS ?_
    simp only [Act.put, lsA, lsZ, lsS]
    refine wpAnyH_done (by kernel_rfl) ?_ _
    go_wp2_with fail
    go_roundw
    case rel =>
     refine ⟨i, h, rfl, rfl, by omega, by omega, HLO.out, fun n y hn hy hb => HP.out (srD_lo HS.out HX.out hy hn hb), HO.out.trans hS (fun _ _ h => h)⟩
    case measure => simp [intOf]; omega
  ·obtain rfl : i = j := by omega
   have e1 : decide ((i : Int) < (i : Int)) = false := decide_eq_false (by omega)
   have e2 : decide (i < i) = false := decide_eq_false (by omega)
   by_cases hil : i < ds.length
   ·have i1 : decide ((i : Int) < (ds.length : Int)) = true := decide_eq_true (by omega)
    have i2 : decide (i < ds.length) = true := decide_eq_true hil
    obtain ⟨x, hx⟩ : ∃ x, ds[i]? = some x := ⟨_, List.getElem?_eq_getElem hil⟩
    obtain ⟨g, off, rfl, -, -⟩ := HR.out.at_ i x hx
    have LX : Hid (∀ w', Off (fun _ => False) wr w' → w'.cell? ⟨g, off + i * 2, none⟩ = some (.int .i64 x.1) ∧ w'.cell? ⟨g, off + i * 2 + 1, none⟩ = some (.int .i64 x.2)) := fun w' hw' => by
     obtain ⟨g', off', e', k0, k1⟩ := (HR.out.off ((HO0.out.trans HO.out (fun _ _ h => h)).trans hw' (fun _ _ h => h))).at_ i x hx
     simp only [Option.some.injEq, Addr.mk.injEq, and_true] at e'
     obtain ⟨rfl, rfl⟩ := e'
     exact ⟨k0, k1⟩
    have LD : Hid (∀ w', Off (fun _ => False) wr w' → w'.cell? ⟨q, 0, none⟩ = some (.int .i64 d.1) ∧ w'.cell? ⟨q, 1, none⟩ = some (.int .i64 d.2)) := fun w' hw' => by
     have := HC0.out.off (HO.out.trans hw' (fun _ _ h => h)) (fun h => h)
     exact ⟨this.cell 0, this.cell 1⟩
    have HB : Hid (decide (d ∈ ds) = decide (cfD x d = 0)) := by
     show _ = _
     rw [decide_eq_decide, cf0]
     constructor
     ·intro hm
      obtain ⟨k, hk⟩ := List.getElem?_of_mem hm
      rcases Nat.lt_or_ge k i with h | h
      ·have := HLO.out k d h hk
       have k0 : cfD d d = 0 := cf0.2 rfl
       omega
      ·have h1 := HHI.out i x (Nat.le_refl _) hx
       have h2 : ¬ ltOf cfD d x = true := by
        rw [ltD]
        by_cases e : i = k
        ·subst e
         rw [hx] at hk
         cases hk
         rw [lt_iff2]
         omega
        ·obtain ⟨l1, e1⟩ := List.getElem?_eq_some_iff.1 hx
         obtain ⟨l2, e2⟩ := List.getElem?_eq_some_iff.1 hk
         have := List.pairwise_iff_getElem.1 HS.out i k l1 l2 (by omega)
         rw [e1, e2] at this
         rw [this]
         simp
       have h3 : ¬ ltOf cfD x d = true := fun e => h1 (of_decide_eq_true e)
       rw [ltD, lt_iff2] at h2 h3
       rcases x with ⟨x1, x2⟩
       rcases d with ⟨d1, d2⟩
       simp only [Prod.mk.injEq] at *
       omega
     ·rintro rfl
      exact List.mem_of_getElem? hx
    have HX : Hid _ := hx
    clear hx
    go_upto_region 8 with fail
    refine wp_region_held_drew (S := Off (fun _ => False) wr) (by kernel_rfl) ((Off.refl _ wr).drew) (fun hS => ?_)
    refine take_at (i := 0) 35 (v := .int .i64 (i : Int)) rfl rfl (by kernel_rfl) (by kernel_rfl) (by kernel_rfl) (fun _ _ _ h => h) (Or.inl ⟨by rfl, fun w' hw' => by go_simp⟩) hS ?_
    simp only [Act.put, lsA, lsZ, lsS]
    refine take_at (i := 1) 36 (v := .int .i64 (i : Int)) rfl rfl (by kernel_rfl) (by kernel_rfl) (by kernel_rfl) (fun _ _ _ h => h) (Or.inl ⟨by rfl, fun w' hw' => by go_simp⟩) hS ?_
    simp only [Act.put, lsA, lsZ, lsS]
    refine take_at (i := 2) 37 (v := .int .i64 (ds.length : Int)) rfl rfl (by kernel_rfl) (by kernel_rfl) (by kernel_rfl) (fun _ _ _ h => h) (Or.inl ⟨by rfl, fun w' hw' => by go_simp⟩) hS ?_
    simp only [Act.put, lsA, lsZ, lsS]
    refine take_at (i := 3) 38 (v := .bool true) rfl rfl (by kernel_rfl) (by kernel_rfl) (by kernel_rfl) (fun _ _ _ h => h) (Or.inl ⟨by rfl, fun w' hw' => by go_simp⟩) hS ?_
    simp only [Act.put, lsA, lsZ, lsS]
    refine take_at (i := 4) 39 (v := .bool true) rfl rfl (by kernel_rfl) (by kernel_rfl) (by kernel_rfl) (fun _ _ _ h => h) (Or.inl ⟨by rfl, fun w' hw' => by go_simp⟩) hS ?_
    simp only [Act.put, lsA, lsZ, lsS]
    refine take_at (i := 5) 40 (v := .func (.func 93) #[] #[]) rfl rfl (by kernel_rfl) (by kernel_rfl) (by kernel_rfl) (fun _ _ _ h => h) (Or.inl ⟨by rfl, fun w' hw' => by go_simp⟩) hS ?_
    simp only [Act.put, lsA, lsZ, lsS]
    refine take_at (i := 6) 41 (v := .slice (some ⟨g, off, none⟩) ds.length c) rfl rfl (by kernel_rfl) (by kernel_rfl) (by kernel_rfl) (fun _ _ _ h => h) (Or.inl ⟨by rfl, fun w' hw' => by go_simp⟩) hS ?_
    simp only [Act.put, lsA, lsZ, lsS]
    refine take_at (i := 7) 42 (v := .int .i64 (i : Int)) rfl rfl (by kernel_rfl) (by kernel_rfl) (by kernel_rfl) (fun _ _ _ h => h) (Or.inl ⟨by rfl, fun w' hw' => by go_simp⟩) hS ?_
    simp only [Act.put, lsA, lsZ, lsS]
    refine take_at (i := 8) 43 (v := .pointer (some ⟨g, off + i * 2, none⟩)) rfl rfl (by kernel_rfl) (by kernel_rfl) (by kernel_rfl) (fun _ _ _ h => h) (Or.inl ⟨by rfl, fun w' hw' => exec_idx10 rfl (idx_dots hil c g off w')⟩) hS ?_
    simp only [Act.put, lsA, lsZ, lsS]
    refine take_at (i := 9) 44 (v := .agg #[.int .i64 x.1, .int .i64 x.2]) rfl rfl (by kernel_rfl) (by kernel_rfl) (by kernel_rfl) (fun _ _ _ h => h) (Or.inl ⟨by rfl, fun w' hw' => by obtain ⟨y0, y1⟩ := LX.out w' hw'; go_simp⟩) hS ?_
    simp only [Act.put, lsA, lsZ, lsS]
    refine take_at (i := 10) 45 (v := .agg #[.int .i64 d.1, .int .i64 d.2]) rfl rfl (by kernel_rfl) (by kernel_rfl) (by kernel_rfl) (fun _ _ _ h => h) (Or.inl ⟨by rfl, fun w' hw' => by obtain ⟨y0, y1⟩ := LD.out w' hw'; go_simp⟩) hS ?_
    simp only [Act.put, lsA, lsZ, lsS]
    refine wpAnyH_ready (rs := [11]) (by kernel_rfl) (by simp) ?_
    refine AllReadyH.cons rfl (fun K' hK' => ?_) AllReadyH.nil
    go_simp
    refine (order_any x d _).mono ?_
    rintro e w1 ⟨rfl, o1⟩
    have hS1 := hS.trans o1 (fun _ _ h => h)
    refine hK'.out _ _ hS1 (fun hS => ?_)
    clear hK' K' hS1
    by_cases hr0 : cfD x d = 0
    ·have d1 : (cfD x d == 0) = true := by rw [hr0]; rfl
     have HB1 : Hid (decide (d ∈ ds) = true) := by show _ = _; rw [HB.out, decide_eq_true hr0]
     clear HB hr0
     refine take_at (i := 12) 47 (v := .bool true) rfl rfl (by kernel_rfl) (by kernel_rfl) (by kernel_rfl) (fun _ _ _ h => h) (Or.inl ⟨by rfl, fun w' hw' => by go_simp⟩) hS ?_
     simp only [Act.put, lsA, lsZ, lsS]
     refine take_at (i := 13) 48 (v := .bool true) rfl rfl (by kernel_rfl) (by kernel_rfl) (by kernel_rfl) (fun _ _ _ h => h) (Or.inl ⟨by rfl, fun w' hw' => by go_simp⟩) hS ?_
     simp only [Act.put, lsA, lsZ, lsS]
     refine take_at (i := 14) 6 (v := .int .i64 (i : Int)) rfl rfl (by kernel_rfl) (by kernel_rfl) (by kernel_rfl) (fun _ _ _ h => h) (Or.inl ⟨by rfl, fun w' hw' => by go_simp⟩) hS ?_
     simp only [Act.put, lsA, lsZ, lsS]
     refine take_at (i := 15) 7 (v := .bool true) rfl rfl (by kernel_rfl) (by kernel_rfl) (by kernel_rfl) (fun _ _ _ h => h) (Or.inl ⟨by rfl, fun w' hw' => by go_simp⟩) hS ?_
     simp only [Act.put, lsA, lsZ, lsS]
     refine wpAnyH_done (by kernel_rfl) ?_ _
     go_wp2_with fail
     go_ret2
     exact ⟨⟨i, by rw [HB1.out]; rfl⟩, (HO0.out.trans HO.out (fun _ _ h => h)).trans hS (fun _ _ h => h)⟩
    ·have d1 : (cfD x d == 0) = false := by rw [beq_eq_false_iff_ne]; exact hr0
     have HB1 : Hid (decide (d ∈ ds) = false) := by show _ = _; rw [HB.out, decide_eq_false hr0]
     clear HB hr0
     refine take_at (i := 12) 47 (v := .bool false) rfl rfl (by kernel_rfl) (by kernel_rfl) (by kernel_rfl) (fun _ _ _ h => h) (Or.inl ⟨by rfl, fun w' hw' => by go_simp⟩) hS ?_
     simp only [Act.put, lsA, lsZ, lsS]
     refine take_at (i := 13) 48 (v := .bool false) rfl rfl (by kernel_rfl) (by kernel_rfl) (by kernel_rfl) (fun _ _ _ h => h) (Or.inl ⟨by rfl, fun w' hw' => by go_simp⟩) hS ?_
     simp only [Act.put, lsA, lsZ, lsS]
     refine take_at (i := 14) 6 (v := .int .i64 (i : Int)) rfl rfl (by kernel_rfl) (by kernel_rfl) (by kernel_rfl) (fun _ _ _ h => h) (Or.inl ⟨by rfl, fun w' hw' => by go_simp⟩) hS ?_
     simp only [Act.put, lsA, lsZ, lsS]
     refine take_at (i := 15) 7 (v := .bool false) rfl rfl (by kernel_rfl) (by kernel_rfl) (by kernel_rfl) (fun _ _ _ h => h) (Or.inl ⟨by rfl, fun w' hw' => by go_simp⟩) hS ?_
     simp only [Act.put, lsA, lsZ, lsS]
     refine wpAnyH_done (by kernel_rfl) ?_ _
     go_wp2_with fail
     go_ret2
     exact ⟨⟨i, by rw [HB1.out]; rfl⟩, (HO0.out.trans HO.out (fun _ _ h => h)).trans hS (fun _ _ h => h)⟩
   ·obtain rfl : i = ds.length := by omega
    have i1 : decide ((ds.length : Int) < (ds.length : Int)) = false := decide_eq_false (by omega)
    have i2 : decide (ds.length < ds.length) = false := decide_eq_false (by omega)
    have HB1 : Hid (decide (d ∈ ds) = false) := by
     show _ = _
     rw [decide_eq_false_iff_not]
     intro hm
     obtain ⟨k, hk⟩ := List.getElem?_of_mem hm
     obtain ⟨l1, -⟩ := List.getElem?_eq_some_iff.1 hk
     have := HLO.out k d l1 hk
     have k0 : cfD d d = 0 := cf0.2 rfl
     omega
    go_upto_region 8 with fail
    refine wp_region_held_drew (S := Off (fun _ => False) wr) (by kernel_rfl) ((Off.refl _ wr).drew) (fun hS => ?_)
    refine take_at (i := 0) 35 (v := .int .i64 (ds.length : Int)) rfl rfl (by kernel_rfl) (by kernel_rfl) (by kernel_rfl) (fun _ _ _ h => h) (Or.inl ⟨by rfl, fun w' hw' => by go_simp⟩) hS ?_
    simp only [Act.put, lsA, lsZ, lsS]
    refine take_at (i := 1) 36 (v := .int .i64 (ds.length : Int)) rfl rfl (by kernel_rfl) (by kernel_rfl) (by kernel_rfl) (fun _ _ _ h => h) (Or.inl ⟨by rfl, fun w' hw' => by go_simp⟩) hS ?_
    simp only [Act.put, lsA, lsZ, lsS]
    refine take_at (i := 2) 37 (v := .int .i64 (ds.length : Int)) rfl rfl (by kernel_rfl) (by kernel_rfl) (by kernel_rfl) (fun _ _ _ h => h) (Or.inl ⟨by rfl, fun w' hw' => by go_simp⟩) hS ?_
    simp only [Act.put, lsA, lsZ, lsS]
    refine take_at (i := 3) 38 (v := .bool false) rfl rfl (by kernel_rfl) (by kernel_rfl) (by kernel_rfl) (fun _ _ _ h => h) (Or.inl ⟨by rfl, fun w' hw' => by go_simp⟩) hS ?_
    simp only [Act.put, lsA, lsZ, lsS]
    refine take_at (i := 4) 39 (v := .bool false) rfl rfl (by kernel_rfl) (by kernel_rfl) (by kernel_rfl) (fun _ _ _ h => h) (Or.inl ⟨by rfl, fun w' hw' => by go_simp⟩) hS ?_
    simp only [Act.put, lsA, lsZ, lsS]
    refine take_at (i := 5) 40 (v := undef) rfl rfl (by kernel_rfl) (by kernel_rfl) (by kernel_rfl) (fun _ _ _ h => h) (Or.inr ⟨by rfl, rfl⟩) hS ?_
    simp only [Act.put, lsA, lsZ, lsS]
    refine take_at (i := 6) 41 (v := undef) rfl rfl (by kernel_rfl) (by kernel_rfl) (by kernel_rfl) (fun _ _ _ h => h) (Or.inr ⟨by rfl, rfl⟩) hS ?_
    simp only [Act.put, lsA, lsZ, lsS]
    refine take_at (i := 7) 42 (v := undef) rfl rfl (by kernel_rfl) (by kernel_rfl) (by kernel_rfl) (fun _ _ _ h => h) (Or.inr ⟨by rfl, rfl⟩) hS ?_
    simp only [Act.put, lsA, lsZ, lsS]
    refine take_at (i := 8) 43 (v := undef) rfl rfl (by kernel_rfl) (by kernel_rfl) (by kernel_rfl) (fun _ _ _ h => h) (Or.inr ⟨by rfl, rfl⟩) hS ?_
    simp only [Act.put, lsA, lsZ, lsS]
    refine take_at (i := 9) 44 (v := undef) rfl rfl (by kernel_rfl) (by kernel_rfl) (by kernel_rfl) (fun _ _ _ h => h) (Or.inr ⟨by rfl, rfl⟩) hS ?_
    simp only [Act.put, lsA, lsZ, lsS]
    refine take_at (i := 10) 45 (v := undef) rfl rfl (by kernel_rfl) (by kernel_rfl) (by kernel_rfl) (fun _ _ _ h => h) (Or.inr ⟨by rfl, rfl⟩) hS ?_
    simp only [Act.put, lsA, lsZ, lsS]
    refine take_at (i := 11) 46 (v := undef) rfl rfl (by kernel_rfl) (by kernel_rfl) (by kernel_rfl) (fun _ _ _ h => h) (Or.inr ⟨by rfl, rfl⟩) hS ?_
    simp only [Act.put, lsA, lsZ, lsS]
    refine take_at (i := 12) 47 (v := undef) rfl rfl (by kernel_rfl) (by kernel_rfl) (by kernel_rfl) (fun _ _ _ h => h) (Or.inr ⟨by rfl, rfl⟩) hS ?_
    simp only [Act.put, lsA, lsZ, lsS]
    refine take_at (i := 13) 48 (v := .bool false) rfl rfl (by kernel_rfl) (by kernel_rfl) (by kernel_rfl) (fun _ _ _ h => h) (Or.inl ⟨by rfl, fun w' hw' => by go_simp⟩) hS ?_
    simp only [Act.put, lsA, lsZ, lsS]
    refine take_at (i := 14) 6 (v := .int .i64 (ds.length : Int)) rfl rfl (by kernel_rfl) (by kernel_rfl) (by kernel_rfl) (fun _ _ _ h => h) (Or.inl ⟨by rfl, fun w' hw' => by go_simp⟩) hS ?_
    simp only [Act.put, lsA, lsZ, lsS]
    refine take_at (i := 15) 7 (v := .bool false) rfl rfl (by kernel_rfl) (by kernel_rfl) (by kernel_rfl) (fun _ _ _ h => h) (Or.inl ⟨by rfl, fun w' hw' => by go_simp⟩) hS ?_
    simp only [Act.put, lsA, lsZ, lsS]
    refine wpAnyH_done (by kernel_rfl) ?_ _
    go_wp2_with fail
    go_ret2
    exact ⟨⟨ds.length, by rw [HB1.out]; rfl⟩, (HO0.out.trans HO.out (fun _ _ h => h)).trans hS (fun _ _ h => h)⟩
set_option maxRecDepth 100000 in
set_option maxHeartbeats 2000000 in
theorem standing1_any (d : Int × Int) (p : Nat) (t : Option Addr) (c : Nat) (ds : List (Int × Int)) (w : World) (h : Sta p t c ds w) :
  Calls Try.prog 94 #[.agg #[.int .i64 d.1, .int .i64 d.2], .pointer (some ⟨p, 0, none⟩)] w fun e w' => e = .returned (.bool (decide (d ∈ ds))) ∧ Off (fun _ => False) w w' := by
 have C0 := Cel.new w 81 #[.int .i64 d.1, .int .i64 d.2]
 have O0 : Off (fun _ => False) w (w.alloc (.cells #[.int .i64 d.1, .int .i64 d.2] 81)) := (Off.refl _ w).alloc _
 go_enter Try.func94, Try.ntmps94
 go_upto_region 1 with fail
 generalize hq : w.heap.size = q at C0 ⊢
 generalize hv : w.alloc (.cells #[.int .i64 d.1, .int .i64 d.2] 81) = W at C0 O0 ⊢
 clear hq hv
 have h' := h.off O0
 have x0 : W.cell? ⟨p, 0, none⟩ = some (.slice t ds.length c) := h'.cel.cell 0
 have y0 : W.cell? ⟨q, 0, none⟩ = some (.int .i64 d.1) := C0.cell 0
 have y1 : W.cell? ⟨q, 1, none⟩ = some (.int .i64 d.2) := C0.cell 1
 have HH : Hid _ := h'
 have HO : Hid _ := O0
 clear h h' O0 C0
 go_wp2_with fail
 refine (dsearch_any t c ds d _ HH.out.row HH.out.sor HH.out.few).mono ?_
 rintro e w1 ⟨n, rfl, o1⟩
 generalize hr : decide (d ∈ ds) = r
 go_wp2_with fail
 go_ret
 exact ⟨by first | rfl | (rw [hr]; rfl), HO.out.trans o1 (fun _ _ h => h)⟩
structure Lk (qe qs p : Nat) (x : E) (t : Option Addr) (c : Nat) (ds : List (Int × Int)) (w : World) : Prop where
 ce : Cel qe 40 #[.string x.key, .int .i64 (x.f 0), .int .i64 (x.f 1), .int .i64 (x.f 2), .int .i64 (x.f 3), .int .i64 (x.f 4), .int .i64 (x.f 5), .int .i64 (x.f 6), .int .i64 (x.f 7), .slice x.a x.l.length x.cap] w
 cs : Cel qs 89 #[.func (.func 94) #[] #[.pointer (some ⟨p, 0, none⟩)]] w
 st : Sta p t c ds w
theorem Lk.off {qe qs p : Nat} {x : E} {t : Option Addr} {c : Nat} {ds : List (Int × Int)} {w w' : World} (h : Lk qe qs p x t c ds w) (o : Off (fun _ => False) w w') : Lk qe qs p x t c ds w' := ⟨h.ce.off o (fun h => h), h.cs.off o (fun h => h), h.st.off o⟩
set_option maxRecDepth 100000 in
set_option maxHeartbeats 2000000 in
theorem lacks1_any (d : Int × Int) (qe qs p : Nat) (x : E) (t : Option Addr) (c : Nat) (ds : List (Int × Int)) (w : World) (h : Lk qe qs p x t c ds w) :
  Calls Try.prog 56 #[.agg #[.int .i64 d.1, .int .i64 d.2], .pointer (some ⟨qe, 0, none⟩), .pointer (some ⟨qs, 0, none⟩)] w fun e w' => e = .returned (.bool (coversB x.f d.1 d.2 && !decide (d ∈ ds))) ∧ Off (fun _ => False) w w' := by
 have C0 := Cel.new w 81 #[.int .i64 d.1, .int .i64 d.2]
 have O0 : Off (fun _ => False) w (w.alloc (.cells #[.int .i64 d.1, .int .i64 d.2] 81)) := (Off.refl _ w).alloc _
 go_enter Try.func56, Try.ntmps56
 go_upto_region 1 with fail
 generalize hq : w.heap.size = q at C0 ⊢
 generalize hv : w.alloc (.cells #[.int .i64 d.1, .int .i64 d.2] 81) = W at C0 O0 ⊢
 clear hq hv
 have h' := h.off O0
 obtain ⟨x0, x1, x2, x3, x4, x5, x6, x7, x8, x9⟩ := cel10 h'.ce
 have y0 : W.cell? ⟨q, 0, none⟩ = some (.int .i64 d.1) := C0.cell 0
 have y1 : W.cell? ⟨q, 1, none⟩ = some (.int .i64 d.2) := C0.cell 1
 have HH : Hid _ := h'
 have HC : Hid _ := C0
 have HO : Hid _ := O0
 clear h h' O0 C0
 go_wp2_with fail
 refine (covers_any x.f d.1 d.2 _).mono ?_
 rintro e w1 ⟨rfl, o1⟩
 clear x0 x1 x2 x3 x4 x5 x6 x7 x8 x9 y0 y1
 have h1 := HH.out.off o1
 have C1 := HC.out.off o1 (fun h => h)
 have O1 := HO.out.trans o1 (fun _ _ h => h)
 have HH1 : Hid _ := h1
 have HO1 : Hid _ := O1
 have z0 : w1.cell? ⟨qs, 0, none⟩ = some (.func (.func 94) #[] #[.pointer (some ⟨p, 0, none⟩)]) := h1.cs.cell 0
 have y0 : w1.cell? ⟨q, 0, none⟩ = some (.int .i64 d.1) := C1.cell 0
 have y1 : w1.cell? ⟨q, 1, none⟩ = some (.int .i64 d.2) := C1.cell 1
 clear h1 C1 O1 o1 HH HC HO
 cases hc : coversB x.f d.1 d.2
 ·go_wp2_with fail
  go_ret
  exact ⟨by rw [hc]; rfl, HO1.out⟩
 ·go_wp2_with fail
  refine (standing1_any d p t c ds _ HH1.out.st).mono ?_
  rintro e w2 ⟨rfl, o2⟩
  clear z0 y0 y1
  generalize hr : decide (d ∈ ds) = r
  have hnot := not_any r
  go_wp2_with fail
  go_ret
  exact ⟨by first | (rw [hc]; rfl) | (rw [hc, hr]; rfl), HO1.out.trans o2 (fun _ _ h => h)⟩
set_option maxRecDepth 100000 in
set_option maxHeartbeats 2000000 in
theorem lindex_any (a : Option Addr) (cap : Nat) (gs : List (Int × Int)) (qe qs p : Nat) (x : E) (t : Option Addr) (c : Nat) (ds : List (Int × Int)) (w : World) (hr : RowD w a cap gs) (h : Lk qe qs p x t c ds w) :
  Calls Try.prog 96 #[.slice a gs.length cap, .func (.func 56) #[] #[.pointer (some ⟨qe, 0, none⟩), .pointer (some ⟨qs, 0, none⟩)]] w fun e w' => ∃ i : Int, e = .returned (.int .i64 i) ∧ (0 ≤ i ↔ (gs.any fun d => coversB x.f d.1 d.2 && !decide (d ∈ ds)) = true) ∧ Off (fun _ => False) w w' := by
 have hb := hr.bound
 have hb2 := hr.len
 have HR : Hid _ := hr
 have HH : Hid _ := h
 clear h hr
 go_enter Try.func96, Try.ntmps96
 go_wp2_with fail
 go_loopw [8] (fun y wr => ∃ n : Nat, y = .int .i64 (n : Int) ∧ n ≤ gs.length ∧ (∀ i v, i < n → gs[i]? = some v → (coversB x.f v.1 v.2 && !decide (v ∈ ds)) = false) ∧ Off (fun _ => False) w wr) (fun y _ => (gs.length - intOf y).toNat)
 case atStart => exact ⟨0, rfl, by omega, fun i v hi => by omega, Off.refl _ w⟩
 case round =>
  obtain ⟨n, rfl, hn, hg, O⟩ := hrel
  have HG : Hid _ := hg
  clear hg
  by_cases hlt : n < gs.length
  ·have e1 : decide ((n : Int) < (gs.length : Int)) = true := decide_eq_true (by omega)
   have e2 : decide (n < gs.length) = true := decide_eq_true hlt
   obtain ⟨v, hv⟩ : ∃ v, gs[n]? = some v := ⟨_, List.getElem?_eq_getElem hlt⟩
   obtain ⟨b, off, rfl, k0, k1⟩ := (HR.out.off O).at_ n v hv
   have hix := idx_dots hlt
   have HV : Hid _ := hv
   have HO : Hid _ := O
   clear hv O
   go_wp2_with fail
   refine (lacks1_any v qe qs p x t c ds _ (HH.out.off HO.out)).mono ?_
   rintro e w2 ⟨rfl, o2⟩
   clear k0 k1 hix
   cases hd : (coversB x.f v.1 v.2 && !decide (v ∈ ds))
   ·go_wp2_with fail
    go_roundw
    case rel =>
     refine ⟨n + 1, by go_num, by omega, fun i u hi hu => ?_, HO.out.trans o2 (fun _ _ h => h)⟩
     rcases Nat.lt_or_ge i n with h | h
     ·exact HG.out i u h hu
     ·obtain rfl : i = n := by omega
      rw [HV.out] at hu
      cases hu
      exact hd
    case measure => simp [intOf]; omega
   ·go_wp2_with fail
    go_ret
    refine ⟨(n : Int), rfl, ⟨fun _ => ?_, fun _ => by omega⟩, HO.out.trans o2 (fun _ _ h => h)⟩
    simp only [List.any_eq_true]
    exact ⟨v, List.mem_of_getElem? HV.out, hd⟩
  ·obtain rfl : n = gs.length := by omega
   have e1 : decide ((gs.length : Int) < (gs.length : Int)) = false := decide_eq_false (by omega)
   have e2 : decide (gs.length < gs.length) = false := decide_eq_false (by omega)
   go_wp2_with fail
   go_ret
   refine ⟨-1, rfl, ⟨fun h => by omega, fun h => ?_⟩, O⟩
   simp only [List.any_eq_true] at h
   obtain ⟨v, hv, hd⟩ := h
   obtain ⟨i, hi⟩ := List.getElem?_of_mem hv
   have hlt : i < gs.length := by
    obtain ⟨h, -⟩ := List.getElem?_eq_some_iff.1 hi
    exact h
   rw [HG.out i v hlt hi] at hd
   cases hd
set_option maxRecDepth 100000 in
set_option maxHeartbeats 2000000 in
theorem lcontains_any (a : Option Addr) (cap : Nat) (gs : List (Int × Int)) (qe qs p : Nat) (x : E) (t : Option Addr) (c : Nat) (ds : List (Int × Int)) (w : World) (hr : RowD w a cap gs) (h : Lk qe qs p x t c ds w) :
  Calls Try.prog 55 #[.slice a gs.length cap, .func (.func 56) #[] #[.pointer (some ⟨qe, 0, none⟩), .pointer (some ⟨qs, 0, none⟩)]] w fun e w' => e = .returned (.bool (gs.any fun d => coversB x.f d.1 d.2 && !decide (d ∈ ds))) ∧ Off (fun _ => False) w w' := by
 have HR : Hid _ := hr
 have HH : Hid _ := h
 clear h hr
 go_enter Try.func55, Try.ntmps55
 go_wp2_with fail
 refine (lindex_any a cap gs qe qs p x t c ds _ HR.out HH.out).mono ?_
 rintro e w1 ⟨i, rfl, hi, o1⟩
 have HI : Hid _ := hi
 have HO : Hid _ := o1
 clear hi o1
 generalize hb : (gs.any fun d => coversB x.f d.1 d.2 && !decide (d ∈ ds)) = r
 by_cases h0 : 0 ≤ i
 ·have d1 : decide (0 ≤ i) = true := decide_eq_true h0
  go_wp2_with fail
  go_ret
  exact ⟨by rw [HI.out.1 h0]; rfl, HO.out⟩
 ·have d1 : decide (0 ≤ i) = false := decide_eq_false h0
  have hf : r = false := by
   cases e : r
   ·rfl
   ·exact absurd (HI.out.2 (by rw [hb, e])) h0
  go_wp2_with fail
  go_ret
  exact ⟨by rw [hb, hf]; rfl, HO.out⟩
set_option maxRecDepth 100000 in
set_option maxHeartbeats 4000000 in
theorem lacks_any (x : E) (g : G) (w : World) (hr : Row w x.a x.cap x.l) (hl : x.l.length ≤ 1000) (hd : RowD w g.a g.cap g.ds) :
  Calls Try.prog 20 #[(.agg #[.string x.key, .int .i64 (x.f 0), .int .i64 (x.f 1), .int .i64 (x.f 2), .int .i64 (x.f 3), .int .i64 (x.f 4), .int .i64 (x.f 5), .int .i64 (x.f 6), .int .i64 (x.f 7), .slice x.a x.l.length x.cap]), .agg #[.string g.key, .int .i64 (g.f 0), .int .i64 (g.f 1), .int .i64 (g.f 2), .int .i64 (g.f 3), .int .i64 (g.f 4), .int .i64 (g.f 5), .int .i64 (g.f 6), .int .i64 (g.f 7), .slice g.a g.ds.length g.cap]] w fun e w' => e = .returned (.bool (lacksB x.key x.f (cont x.l) g.abs)) ∧ Off (fun _ => False) w w' := by
 have GC : (gcs g).toArray = #[.string g.key, .int .i64 (g.f 0), .int .i64 (g.f 1), .int .i64 (g.f 2), .int .i64 (g.f 3), .int .i64 (g.f 4), .int .i64 (g.f 5), .int .i64 (g.f 6), .int .i64 (g.f 7), .slice g.a g.ds.length g.cap] := rfl
 have CE := (Cel.new w 40 #[.string x.key, .int .i64 (x.f 0), .int .i64 (x.f 1), .int .i64 (x.f 2), .int .i64 (x.f 3), .int .i64 (x.f 4), .int .i64 (x.f 5), .int .i64 (x.f 6), .int .i64 (x.f 7), .slice x.a x.l.length x.cap]).alloc (.cells #[.string g.key, .int .i64 (g.f 0), .int .i64 (g.f 1), .int .i64 (g.f 2), .int .i64 (g.f 3), .int .i64 (g.f 4), .int .i64 (g.f 5), .int .i64 (g.f 6), .int .i64 (g.f 7), .slice g.a g.ds.length g.cap] 27)
 have CG := Cel.new1 w (.cells #[.string x.key, .int .i64 (x.f 0), .int .i64 (x.f 1), .int .i64 (x.f 2), .int .i64 (x.f 3), .int .i64 (x.f 4), .int .i64 (x.f 5), .int .i64 (x.f 6), .int .i64 (x.f 7), .slice x.a x.l.length x.cap] 40) 27 #[.string g.key, .int .i64 (g.f 0), .int .i64 (g.f 1), .int .i64 (g.f 2), .int .i64 (g.f 3), .int .i64 (g.f 4), .int .i64 (g.f 5), .int .i64 (g.f 6), .int .i64 (g.f 7), .slice g.a g.ds.length g.cap]
 have O0 : Off (fun _ => False) w ((w.alloc (.cells #[.string x.key, .int .i64 (x.f 0), .int .i64 (x.f 1), .int .i64 (x.f 2), .int .i64 (x.f 3), .int .i64 (x.f 4), .int .i64 (x.f 5), .int .i64 (x.f 6), .int .i64 (x.f 7), .slice x.a x.l.length x.cap] 40)).alloc (.cells #[.string g.key, .int .i64 (g.f 0), .int .i64 (g.f 1), .int .i64 (g.f 2), .int .i64 (g.f 3), .int .i64 (g.f 4), .int .i64 (g.f 5), .int .i64 (g.f 6), .int .i64 (g.f 7), .slice g.a g.ds.length g.cap] 27)) := ((Off.refl _ w).alloc _).alloc _
 clear GC
 have hqq : w.heap.size + 1 ≠ w.heap.size := by omega
 go_enter Try.func20, Try.ntmps20
 go_upto_region 1 with fail
 generalize hv : (w.alloc (.cells #[.string x.key, .int .i64 (x.f 0), .int .i64 (x.f 1), .int .i64 (x.f 2), .int .i64 (x.f 3), .int .i64 (x.f 4), .int .i64 (x.f 5), .int .i64 (x.f 6), .int .i64 (x.f 7), .slice x.a x.l.length x.cap] 40)).alloc (.cells #[.string g.key, .int .i64 (g.f 0), .int .i64 (g.f 1), .int .i64 (g.f 2), .int .i64 (g.f 3), .int .i64 (g.f 4), .int .i64 (g.f 5), .int .i64 (g.f 6), .int .i64 (g.f 7), .slice g.a g.ds.length g.cap] 27) = W at CE CG O0 ⊢
 generalize hq1 : w.heap.size + 1 = q1 at CG ⊢
 generalize hq0 : w.heap.size = q0 at CE ⊢
 clear hv hq0 hq1 hqq
 have HCE : Hid _ := CE
 have HCG : Hid _ := CG
 have HO0 : Hid _ := O0
 have HR : Hid _ := hr.off O0
 have HD : Hid _ := hd.off O0
 obtain ⟨x0, x1, x2, x3, x4, x5, x6, x7, x8, x9⟩ := cel10 CE
 obtain ⟨y0, y1, y2, y3, y4, y5, y6, y7, y8, y9⟩ := cel10 CG
 clear CE CG O0 hr hd
 by_cases hk : x.key = g.key
 ·have k1 : (x.key.toList == g.key.toList) = true := by rw [hk]; simp
  have k2 : x.key.toList = g.key.toList := by rw [hk]
  have HK : Hid _ := hk
  clear hk
  go_wp2_with fail
  refine (leq_any x.f g.f _).mono ?_
  rintro e w1 ⟨rfl, o1⟩
  clear x0 x1 x2 x3 x4 x5 x6 x7 x8 x9 y0 y1 y2 y3 y4 y5 y6 y7 y8 y9 k1 k2
  have HL : Hid (∀ r, leqB x.f g.f = r → lacksB x.key x.f (cont x.l) g.abs = (!r || g.ds.any fun d => coversB x.f d.1 d.2 && !stands (cont x.l) d)) := fun r hr => by
   unfold lacksB
   show (!smk x.key g.key || !leqB x.f g.f || g.ds.any fun d => coversB x.f d.1 d.2 && !stands (cont x.l) d) = _
   rw [smk_iff.2 HK.out, hr]
   simp
  have C1 := HCE.out.off o1 (fun h => h)
  have D1 := HCG.out.off o1 (fun h => h)
  have HC1 : Hid _ := C1
  have HD1 : Hid _ := D1
  have HO1 : Hid _ := HO0.out.trans o1 (fun _ _ h => h)
  have HR1 : Hid _ := HR.out.off o1
  have HG1 : Hid _ := HD.out.off o1
  obtain ⟨x0, x1, x2, x3, x4, x5, x6, x7, x8, x9⟩ := cel10 C1
  clear C1 D1 o1 HCE HCG HO0 HR HD HK
  cases hlq : leqB x.f g.f
  ·have HL0 : Hid _ := HL.out _ hlq
   clear HL hlq
   go_wp2_with fail
   go_ret
   exact ⟨by rw [HL0.out]; rfl, HO1.out⟩
  ·have HL0 : Hid _ := HL.out _ hlq
   clear HL hlq
   go_wp2_with fail
   refine (standing_any x.a x.cap x.l _ HR1.out hl).mono ?_
   rintro e w2 ⟨p, t, c, ds, rfl, hst, hmem, o2⟩
   have HST : Hid _ := hst
   have HM : Hid _ := hmem
   have HO2 : Hid _ := o2
   clear hst hmem o2 x0 x1 x2 x3 x4 x5 x6 x7 x8 x9
   have CS := Cel.new w2 89 #[.func (.func 94) #[] #[.pointer (some ⟨p, 0, none⟩)]]
   have OS : Off (fun _ => False) w2 (w2.alloc (.cells #[.func (.func 94) #[] #[.pointer (some ⟨p, 0, none⟩)]] 89)) := (Off.refl _ w2).alloc _
   go_upto_region 4 with fail
   generalize hq2 : w2.heap.size = q2 at CS ⊢
   generalize hv2 : w2.alloc (.cells #[.func (.func 94) #[] #[.pointer (some ⟨p, 0, none⟩)]] 89) = W2 at CS OS ⊢
   clear hq2 hv2
   have O3 := HO2.out.trans OS (fun _ _ h => h)
   have HLK : Hid (Lk q0 q2 p x t c ds W2) := ⟨HC1.out.off O3 (fun h => h), CS, HST.out.off OS⟩
   obtain ⟨y0, y1, y2, y3, y4, y5, y6, y7, y8, y9⟩ := cel10 (HD1.out.off O3 (fun h => h))
   have HG3 : Hid _ := HG1.out.off O3
   have HO3 : Hid _ := HO1.out.trans O3 (fun _ _ h => h)
   clear O3 OS CS
   go_wp2_with fail
   refine (lcontains_any g.a g.cap g.ds q0 q2 p x t c ds _ HG3.out HLK.out).mono ?_
   rintro e w3 ⟨rfl, o3⟩
   have HE : Hid ((g.ds.any fun d => coversB x.f d.1 d.2 && !decide (d ∈ ds)) = (g.ds.any fun d => coversB x.f d.1 d.2 && !stands (cont x.l) d)) := by
    show _ = _
    congr 1
    funext d
    congr 2
    rw [Bool.eq_iff_iff, decide_eq_true_eq]
    exact HM.out d
   generalize hb : (g.ds.any fun d => coversB x.f d.1 d.2 && !decide (d ∈ ds)) = r
   have HE1 : Hid (r = (g.ds.any fun d => coversB x.f d.1 d.2 && !stands (cont x.l) d)) := by show _ = _; rw [← hb]; exact HE.out
   clear hb HE y0 y1 y2 y3 y4 y5 y6 y7 y8 y9
   go_wp2_with fail
   go_ret
   exact ⟨by rw [HL0.out, ← HE1.out]; rfl, HO3.out.trans o3 (fun _ _ h => h)⟩
 ·have k1 : (x.key.toList == g.key.toList) = false := by rw [toL, toL, beq_eq_false_iff_ne]; exact fun e => hk (kb_inj e)
  have HB : Hid (lacksB x.key x.f (cont x.l) g.abs = true) := by
   show _ = _
   unfold lacksB
   show (!smk x.key g.key || !leqB x.f g.f || _) = _
   rw [smk_no.2 hk]
   rfl
  clear hk
  go_wp2_with fail
  go_ret
  exact ⟨by rw [HB.out]; rfl, HO0.out⟩
end Go.Proofs.Ytpnnpdfmoldiiaa
