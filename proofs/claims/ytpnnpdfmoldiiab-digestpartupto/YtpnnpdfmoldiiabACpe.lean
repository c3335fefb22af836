/- Items of several texts. -/
import Derived.Test.YtpnnpdfmoldiiabAKee
import Derived.Test.YtpnnpdfmoldiiabATol
namespace Go.Proofs.Ytpnnpdfmoldiiab
open Go.RowKit
theorem results_ent {fn : Func} {p : Tmp} (h : fn.results = #[.cell p 35]) {tmps : Array Value} {w : World} {b : Nat} {x0 x1 x2 x3 x4 x5 x6 x7 x8 x9 : Value} (hp : tmps.getD p undef = .pointer (some ⟨b, 0, none⟩)) (hc : Cel b 35 #[x0, x1, x2, x3, x4, x5, x6, x7, x8, x9] w) :
  (results fn tmps).run Try.prog w = .ok (.agg #[x0, x1, x2, x3, x4, x5, x6, x7, x8, x9]) w := by
 obtain ⟨d, hd⟩ : ∃ d, Try.prog.underlying 35 = some (.struct d) := ⟨_, Try.underlying35⟩
 exact results_cell_row h tmps w b 35 _ (0, 0) (.struct d) hp hc.is hd rfl (by kernel_rfl)
set_option maxRecDepth 100000 in
set_option maxHeartbeats 1000000 in
theorem ecopy_any (key : ByteArray) (f : Nat → Int) (a : Option Addr) (cap : Nat) (l : List V) (w : World) (hr : Row w a cap l) (hl : l.length ≤ 1000) :
  Calls Try.prog 19 #[.agg #[.string key, .int .i64 (f 0), .int .i64 (f 1), .int .i64 (f 2), .int .i64 (f 3), .int .i64 (f 4), .int .i64 (f 5), .int .i64 (f 6), .int .i64 (f 7), .slice a l.length cap]] w fun e w' => ∃ (a' : Option Addr) (c' : Nat) (k : List V), e = .returned (.agg #[.string key, .int .i64 (f 0), .int .i64 (f 1), .int .i64 (f 2), .int .i64 (f 3), .int .i64 (f 4), .int .i64 (f 5), .int .i64 (f 6), .int .i64 (f 7), .slice a' k.length c']) ∧ cont k = cont l ∧ Row w' a' c' k ∧ Far w.heap.size a' k ∧ Off (fun _ => False) w w' := by
 obtain ⟨W, hW⟩ : ∃ W, W = ((w.alloc (.cells #[.string key, .int .i64 (f 0), .int .i64 (f 1), .int .i64 (f 2), .int .i64 (f 3), .int .i64 (f 4), .int .i64 (f 5), .int .i64 (f 6), .int .i64 (f 7), .slice a l.length cap] 35)).alloc (.cells #[.string ⟨#[]⟩, .int .i64 0, .int .i64 0, .int .i64 0, .int .i64 0, .int .i64 0, .int .i64 0, .int .i64 0, .int .i64 0, .slice none 0 0] 35)) := ⟨_, rfl⟩
 have O : Off (fun _ => False) w W := by rw [hW]; exact ((Off.refl _ w).alloc _).alloc _
 have C0 : Cel w.heap.size 35 #[.string key, .int .i64 (f 0), .int .i64 (f 1), .int .i64 (f 2), .int .i64 (f 3), .int .i64 (f 4), .int .i64 (f 5), .int .i64 (f 6), .int .i64 (f 7), .slice a l.length cap] W := by rw [hW]; exact (Cel.new w _ _).alloc _
 have C1 : Cel (w.heap.size + 1) 35 #[.string ⟨#[]⟩, .int .i64 0, .int .i64 0, .int .i64 0, .int .i64 0, .int .i64 0, .int .i64 0, .int .i64 0, .int .i64 0, .slice none 0 0] W := by rw [hW]; exact Cel.new1 w _ _ _
 have c8 : W.cell? ⟨w.heap.size, 9, none⟩ = some (.slice a l.length cap) := C0.cell 9
 have HC0 : Hid _ := C0
 have HC1 : Hid _ := C1
 have HR : Hid _ := hr.off O
 have HO : Hid _ := O
 have HW : Hid _ := hW
 clear hr O C0 C1 hW
 go_enter Try.func19, Try.ntmps19
 go_upto_region 1 with fail
 rw [show ((w.alloc (.cells #[.string key, .int .i64 (f 0), .int .i64 (f 1), .int .i64 (f 2), .int .i64 (f 3), .int .i64 (f 4), .int .i64 (f 5), .int .i64 (f 6), .int .i64 (f 7), .slice a l.length cap] 35)).alloc (.cells #[.string ⟨#[]⟩, .int .i64 0, .int .i64 0, .int .i64 0, .int .i64 0, .int .i64 0, .int .i64 0, .int .i64 0, .int .i64 0, .slice none 0 0] 35)) = W from HW.out.symm]
 go_wp2_with fail
 refine (vclone_any a cap l hl W HR.out).mono ?_
 rintro e w1 ⟨t, c, rfl, own, hnew, o1⟩
 have D0 := HC0.out.off o1 (fun h => h)
 have D1 := HC1.out.off o1 (fun h => h)
 have f0 := D0.free
 have d8 : w1.cell? ⟨w.heap.size, 9, none⟩ = some (.slice a l.length cap) := D0.cell 9
 obtain ⟨W1, hW1⟩ : ∃ W1, W1 = w1.setCell ⟨w.heap.size, 9, none⟩ (.slice t l.length c) := ⟨_, rfl⟩
 have hne : ∀ k, blk t = some k → k ≠ w.heap.size ∧ k ≠ w.heap.size + 1 := fun k hk => by
  have h1 := hnew k hk
  have h2 := HC1.out.lt
  constructor <;> omega
 have E0 : Cel w.heap.size 35 #[.string key, .int .i64 (f 0), .int .i64 (f 1), .int .i64 (f 2), .int .i64 (f 3), .int .i64 (f 4), .int .i64 (f 5), .int .i64 (f 6), .int .i64 (f 7), .slice t l.length c] W1 := by
  rw [hW1]
  have := D0.set 9 (.slice t l.length c)
  simpa using this
 have E1 : Cel (w.heap.size + 1) 35 #[.string ⟨#[]⟩, .int .i64 0, .int .i64 0, .int .i64 0, .int .i64 0, .int .i64 0, .int .i64 0, .int .i64 0, .int .i64 0, .slice none 0 0] W1 := by rw [hW1]; exact D1.other (by simp) _
 have OW : Off (fun _ => False) w W1 := by rw [hW1]; exact (HO.out.trans o1 (fun _ _ h => h)).setCell (.inr (Nat.le_refl _)) _
 have own1 : OwnV W1 t c l := by
  rw [hW1]
  exact own.off (D := fun k => k = w.heap.size) ((Off.refl (fun k => k = w.heap.size) w1).setCell (.inl rfl) _) (fun k hk => (hne k hk).1)
 have row1 : Row W1 t c l := by
  refine own1.toRow (fun v hv => ?_)
  have := ((HR.out.off o1).ok v hv)
  rw [hW1]
  exact ⟨this.src.setN (fun k n e => by rw [D0.cell 9] at e; simp at e) _, this.lt, this.n0, this.n1, this.m0, this.m1, this.len⟩
 have k8 : W1.cell? ⟨w.heap.size, 9, none⟩ = some (.slice t l.length c) := E0.cell 9
 have hnew2 : ∀ k, blk t = some k → w.heap.size ≤ k := fun k hk => Nat.le_trans HO.out.size (hnew k hk)
 have HE0 : Hid _ := E0
 have HE1 : Hid _ := E1
 have HOW : Hid _ := OW
 have HOWN : Hid _ := own1
 have HROW : Hid _ := row1
 have HNE : Hid _ := hne
 have HNW : Hid _ := hnew2
 have HW1 : Hid _ := hW1
 clear D0 D1 E0 E1 OW own1 row1 hne hnew hnew2 own o1 hW1 c8 HC0 HC1 HR HO HW
 have c8 : (w1.setCell ⟨w.heap.size, 9, none⟩ (.slice t l.length c)).cell? ⟨w.heap.size, 9, none⟩ = some (.slice t l.length c) := by rw [← HW1.out]; exact k8
 go_upto_region 2 with fail
 rw [← HW1.out]
 clear c8 f0 d8
 go_wp2_with fail
 go_loopw [14] (fun y wr => ∃ (n : Nat) (k : List V), y = .int .i64 (n : Int) ∧ n ≤ l.length ∧ k.length = l.length ∧ cont k = cont l ∧ (∀ i v, i < n → k[i]? = some v → ∀ x, blk v.ad = some x → w.heap.size + 2 ≤ x) ∧ Row wr t c k ∧ Cel w.heap.size 35 #[.string key, .int .i64 (f 0), .int .i64 (f 1), .int .i64 (f 2), .int .i64 (f 3), .int .i64 (f 4), .int .i64 (f 5), .int .i64 (f 6), .int .i64 (f 7), .slice t l.length c] wr ∧ Cel (w.heap.size + 1) 35 #[.string ⟨#[]⟩, .int .i64 0, .int .i64 0, .int .i64 0, .int .i64 0, .int .i64 0, .int .i64 0, .int .i64 0, .int .i64 0, .slice none 0 0] wr ∧ (∀ v ∈ l, ∃ g cur, t = some ⟨g, 0, none⟩ ∧ Cel g 71 cur wr) ∧ Off (fun _ => False) w wr) (fun y _ => (l.length - intOf y).toNat)
 case atStart =>
  refine ⟨0, l, rfl, by omega, rfl, rfl, fun i v hi => by omega, HROW.out, HE0.out, HE1.out, fun v hv => ?_, HOW.out⟩
  rcases HOWN.out.row.2 with ⟨-, h0⟩ | ⟨g, c', cur, hvv, -, hh, -⟩
  ·rw [List.eq_nil_of_length_eq_zero h0] at hv
   simp at hv
  ·simp only [Value.slice.injEq] at hvv
   exact ⟨g, cur, hvv.1, ⟨hh⟩⟩
 case round =>
  clear HE0 HE1 HOW HOWN HROW HW1 k8
  obtain ⟨n, k, rfl, hn, hkl, hck, hbb, rw1, cb, cr, hgg, O⟩ := hrel
  have HBB : Hid _ := hbb
  have CB : Hid _ := cb
  have CR : Hid _ := cr
  have HK : Hid (cont k = cont l) := hck
  have HL : Hid (k.length = l.length) := hkl
  have HRW : Hid _ := rw1
  have HGG : Hid _ := hgg
  have HO : Hid _ := O
  clear cb cr hck hkl rw1 hgg O hbb
  by_cases hlt : n < l.length
  ·have e1 : decide ((n : Int) < (l.length : Int)) = true := decide_eq_true (by omega)
   have e2 : decide (n < l.length) = true := decide_eq_true hlt
   obtain ⟨v, hv⟩ : ∃ v, k[n]? = some v := ⟨_, List.getElem?_eq_getElem (by rw [HL.out]; exact hlt)⟩
   obtain ⟨g, cur, rfl, hg⟩ := HGG.out _ (List.getElem_mem hlt)
   have hgq := HNE.out g rfl
   have HGQ : Hid (¬ w.heap.size = g) := fun e => hgq.1 e.symm
   have hok := (HRW.out.off ((Off.refl _ wr).drew)).ok v (List.mem_of_getElem? hv)
   have HR9 : Hid _ := HRW.out.off ((Off.refl _ wr).drew)
   have c2 : wr.drew.cell? ⟨g, n * 4 + 2, none⟩ = some (.slice v.ad v.data.length v.cap) := (HR9.out.at0 hv).c2
   have HG : Hid _ := hg
   have HGN : Hid _ := HNW.out g rfl
   clear hg hgq
   go_wp2_with fail
   refine wp_region_held_drew (S := fun w' => Off (fun c => c = g) wr w') (by kernel_rfl) ((Off.refl _ wr).drew) (fun hS => ?_)
   refine take_at (i := 0) 17 (v := .pointer (some ⟨w.heap.size, 1, none⟩)) rfl rfl (by kernel_rfl) (by kernel_rfl) (by kernel_rfl) (fun _ _ _ h => h) (Or.inl ⟨by rfl, fun w' hw' => by go_simp⟩) hS ?_
   simp only [Act.put, lsA, lsZ, lsS]
   refine take_at (i := 1) 18 (v := .pointer (some ⟨w.heap.size, 9, none⟩)) rfl rfl (by kernel_rfl) (by kernel_rfl) (by kernel_rfl) (fun _ _ _ h => h) (Or.inl ⟨by rfl, fun w' hw' => by go_simp⟩) hS ?_
   simp only [Act.put, lsA, lsZ, lsS]
   refine take_at (i := 2) 19 (v := .slice (some ⟨g, 0, none⟩) l.length c) rfl rfl (by kernel_rfl) (by kernel_rfl) (by kernel_rfl) (fun _ _ _ h => h) (Or.inl ⟨by rfl, fun w' hw' => by obtain ⟨x0, x1, x2, x3, x4, x5, x6, x7, x8, x9⟩ := cel10 (CB.out.off hw' HGQ.out); go_simp⟩) hS ?_
   simp only [Act.put, lsA, lsZ, lsS]
   refine take_at (i := 3) 20 (v := .int .i64 (n : Int)) rfl rfl (by kernel_rfl) (by kernel_rfl) (by kernel_rfl) (fun _ _ _ h => h) (Or.inl ⟨by rfl, fun w' hw' => by go_simp⟩) hS ?_
   simp only [Act.put, lsA, lsZ, lsS]
   refine take_at (i := 4) 21 (v := .pointer (some ⟨w.heap.size, 1, none⟩)) rfl rfl (by kernel_rfl) (by kernel_rfl) (by kernel_rfl) (fun _ _ _ h => h) (Or.inl ⟨by rfl, fun w' hw' => by go_simp⟩) hS ?_
   simp only [Act.put, lsA, lsZ, lsS]
   refine take_at (i := 5) 22 (v := .pointer (some ⟨w.heap.size, 9, none⟩)) rfl rfl (by kernel_rfl) (by kernel_rfl) (by kernel_rfl) (fun _ _ _ h => h) (Or.inl ⟨by rfl, fun w' hw' => by go_simp⟩) hS ?_
   simp only [Act.put, lsA, lsZ, lsS]
   refine take_at (i := 6) 23 (v := .slice (some ⟨g, 0, none⟩) l.length c) rfl rfl (by kernel_rfl) (by kernel_rfl) (by kernel_rfl) (fun _ _ _ h => h) (Or.inl ⟨by rfl, fun w' hw' => by obtain ⟨x0, x1, x2, x3, x4, x5, x6, x7, x8, x9⟩ := cel10 (CB.out.off hw' HGQ.out); go_simp⟩) hS ?_
   simp only [Act.put, lsA, lsZ, lsS]
   refine take_at (i := 7) 24 (v := .int .i64 (n : Int)) rfl rfl (by kernel_rfl) (by kernel_rfl) (by kernel_rfl) (fun _ _ _ h => h) (Or.inl ⟨by rfl, fun w' hw' => by go_simp⟩) hS ?_
   simp only [Act.put, lsA, lsZ, lsS]
   refine take_at (i := 8) 25 (v := .pointer (some ⟨g, n * 4, none⟩)) rfl rfl (by kernel_rfl) (by kernel_rfl) (by kernel_rfl) (fun _ _ _ h => h) (Or.inl ⟨by rfl, fun w' hw' => exec_idx10 rfl (idx_row hlt c g w')⟩) hS ?_
   simp only [Act.put, lsA, lsZ, lsS]
   refine take_at (i := 9) 26 (v := .pointer (some ⟨g, n * 4 + 2, none⟩)) rfl rfl (by kernel_rfl) (by kernel_rfl) (by kernel_rfl) (fun _ _ _ h => h) (Or.inl ⟨by rfl, fun w' hw' => by go_simp⟩) hS ?_
   simp only [Act.put, lsA, lsZ, lsS]
   refine wpAnyH_ready (rs := [10]) (by kernel_rfl) (by simp) ?_
   refine AllReadyH.cons rfl (fun K' hK' => ?_) AllReadyH.nil
   go_simp
   refine hK'.out _ _ hS (fun hS => ?_)
   clear hK' K'
   refine wpAnyH_ready (rs := [11]) (by kernel_rfl) (by simp) ?_
   refine AllReadyH.cons rfl (fun K' hK' => ?_) AllReadyH.nil
   go_simp
   refine (bclone_any v.ad v.cap v.data (by have := hok.len; omega) _ hok.src).mono ?_
   rintro e w9 ⟨t, c1, rfl, own, hnw, o9⟩
   have hS9 : Off (fun c => c = g) wr w9 := hS.trans o9 (fun _ _ h => h.elim)
   refine hK'.out _ _ hS9 (fun hS => ?_)
   clear hK' K' hS9
   refine take_at (i := 12) 29 (v := .pointer (some ⟨g, n * 4, none⟩)) rfl rfl (by kernel_rfl) (by kernel_rfl) (by kernel_rfl) (fun _ _ _ h => h) (Or.inl ⟨by rfl, fun w' hw' => exec_idx10 rfl (idx_row hlt c g w')⟩) hS ?_
   simp only [Act.put, lsA, lsZ, lsS]
   refine take_at (i := 13) 30 (v := .pointer (some ⟨g, n * 4 + 2, none⟩)) rfl rfl (by kernel_rfl) (by kernel_rfl) (by kernel_rfl) (fun _ _ _ h => h) (Or.inl ⟨by rfl, fun w' hw' => by go_simp⟩) hS ?_
   simp only [Act.put, lsA, lsZ, lsS]
   have R9 := HR9.out.off o9
   obtain ⟨cur9, hg9⟩ : ∃ cur, Cel g 71 cur w9 := ⟨_, HG.out.off (((Off.refl _ wr).drew).trans o9 (fun _ _ h => h)) (fun h => h)⟩
   have f9 := hg9.free
   have hc2 : w9.cell? ⟨g, n * 4 + 2, none⟩ = some (.slice v.ad v.data.length v.cap) := (R9.at0 hv).c2
   have R10 := R9.setData hv own.src
   have HNW9 : Hid (∀ x, blk t = some x → w.heap.size + 2 ≤ x) := fun x hx => by have h1 := hnw x hx; have h2 := CR.out.lt; have h3 : wr.drew.heap.size = wr.heap.size := rfl; omega
   clear hnw
   have HOW : Hid _ := own
   have HR10 : Hid _ := R10
   have HG9 : Hid _ := hg9
   have HO9 : Hid _ := o9
   clear own R9 R10 hg9 o9
   refine wpAnyH_ready (rs := [14]) (by kernel_rfl) (by simp) ?_
   refine AllReadyH.cons rfl (fun K' hK' => ?_) AllReadyH.nil
   go_simp
   refine hK'.out _ _ (hS.setCell (p := ⟨g, n * 4 + 2, none⟩) (.inl rfl) _) (fun hS => ?_)
   clear hK' K'
   refine wpAnyH_done (by kernel_rfl) ?_ _
   go_wp2_with fail
   go_roundw
   case rel =>
    have o12 : Off (fun c => c = g) wr (w9.setCell ⟨g, n * 4 + 2, none⟩ (.slice t v.data.length c1)) := hS
    refine ⟨n + 1, k.set n (⟨v.node, v.num, t, c1, v.data, v.dead⟩ : V), by go_num, by omega, by rw [List.length_set]; exact HL.out, by rw [cont_set hv]; exact HK.out, set_far hv HBB.out HNW9.out, HR10.out, CB.out.off o12 HGQ.out, CR.out.off o12 (fun e => (HNE.out g rfl).2 e.symm), fun u hu => ⟨g, _, rfl, HG9.out.set _ _⟩, HO.out.trans o12 (fun i hi h => ?_)⟩
    have := HGN.out
    omega
   case measure => simp [intOf]; omega
  ·obtain rfl : n = l.length := by omega
   have e1 : decide ((l.length : Int) < (l.length : Int)) = false := decide_eq_false (by omega)
   have e2 : decide (l.length < l.length) = false := decide_eq_false (by omega)
   obtain ⟨x0, x1, x2, x3, x4, x5, x6, x7, x8, x9⟩ := cel10 CB.out
   obtain ⟨z0, z1, z2, z3, z4, z5, z6, z7, z8, z9⟩ := cel10 CR.out
   have fr := CR.out.free
   go_wp2_with fail
   refine bodyPost_ret (results_ent rfl rfl (CR.out.sd10 key f (.slice t l.length c))) rfl ?_
   refine ⟨t, c, k, by rw [HL.out], HK.out, ?_, ⟨HNW.out, fun v hv x hx => by
    obtain ⟨i, hi⟩ := List.getElem?_of_mem hv
    have hil : i < l.length := by
     obtain ⟨h, -⟩ := List.getElem?_eq_some_iff.1 hi
     rw [HL.out] at h
     exact h
    have := HBB.out i v hil hi x hx
    omega⟩, HO.out.sd10 (.inr (by omega)) key f (.slice t l.length c)⟩
   exact HRW.out.offD (D := fun x => x = w.heap.size + 1) ((Off.refl (fun x => x = w.heap.size + 1) wr).sd10 (.inl rfl) key f (.slice t l.length c)) (fun x _ hx => (HNE.out x hx).2) (fun v hv x _ hx => by
    obtain ⟨i, hi⟩ := List.getElem?_of_mem hv
    have hil : i < l.length := by
     obtain ⟨h, -⟩ := List.getElem?_eq_some_iff.1 hi
     rw [HL.out] at h
     exact h
    have := HBB.out i v hil hi x hx
    omega)
end Go.Proofs.Ytpnnpdfmoldiiab
