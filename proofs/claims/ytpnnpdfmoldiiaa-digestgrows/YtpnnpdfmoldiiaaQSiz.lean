/- Items of several texts. -/
import Derived.Test.YtpnnpdfmoldiiaaQKee
import Derived.Test.YtpnnpdfmoldiiaaQTol
import Derived.Test.YtpnnpdfmoldiiaaQSWe
namespace Go.Proofs.Ytpnnpdfmoldiiaa
open Go.RowKit
theorem results_ent {fn : Func} {p : Tmp} (h : fn.results = #[.cell p 40]) {tmps : Array Value} {w : World} {b : Nat} {x0 x1 x2 x3 x4 x5 x6 x7 x8 x9 : Value} (hp : tmps.getD p undef = .pointer (some ⟨b, 0, none⟩)) (hc : Cel b 40 #[x0, x1, x2, x3, x4, x5, x6, x7, x8, x9] w) :
  (results fn tmps).run Try.prog w = .ok (.agg #[x0, x1, x2, x3, x4, x5, x6, x7, x8, x9]) w := by
 obtain ⟨d, hd⟩ : ∃ d, Try.prog.underlying 40 = some (.struct d) := ⟨_, Try.underlying40⟩
 exact results_cell_row h tmps w b 40 _ (0, 0) (.struct d) hp hc.is hd rfl (by kernel_rfl)
set_option maxRecDepth 100000 in
set_option maxHeartbeats 1000000 in
theorem ecopy_any (key : ByteArray) (f : Nat → Int) (a : Option Addr) (cap : Nat) (l : List V) (w : World) (hr : Row w a cap l) (hl : l.length ≤ 1000) :
  Calls Try.prog 61 #[.agg #[.string key, .int .i64 (f 0), .int .i64 (f 1), .int .i64 (f 2), .int .i64 (f 3), .int .i64 (f 4), .int .i64 (f 5), .int .i64 (f 6), .int .i64 (f 7), .slice a l.length cap]] w fun e w' => ∃ (a' : Option Addr) (c' : Nat) (k : List V), e = .returned (.agg #[.string key, .int .i64 (f 0), .int .i64 (f 1), .int .i64 (f 2), .int .i64 (f 3), .int .i64 (f 4), .int .i64 (f 5), .int .i64 (f 6), .int .i64 (f 7), .slice a' k.length c']) ∧ cont k = cont l ∧ Row w' a' c' k ∧ Far w.heap.size a' k ∧ Off (fun _ => False) w w' := by
 obtain ⟨W, hW⟩ : ∃ W, W = ((w.alloc (.cells #[.string key, .int .i64 (f 0), .int .i64 (f 1), .int .i64 (f 2), .int .i64 (f 3), .int .i64 (f 4), .int .i64 (f 5), .int .i64 (f 6), .int .i64 (f 7), .slice a l.length cap] 40)).alloc (.cells #[.string ⟨#[]⟩, .int .i64 0, .int .i64 0, .int .i64 0, .int .i64 0, .int .i64 0, .int .i64 0, .int .i64 0, .int .i64 0, .slice none 0 0] 40)) := ⟨_, rfl⟩
 have O : Off (fun _ => False) w W := by rw [hW]; exact ((Off.refl _ w).alloc _).alloc _
 have C0 : Cel w.heap.size 40 #[.string key, .int .i64 (f 0), .int .i64 (f 1), .int .i64 (f 2), .int .i64 (f 3), .int .i64 (f 4), .int .i64 (f 5), .int .i64 (f 6), .int .i64 (f 7), .slice a l.length cap] W := by rw [hW]; exact (Cel.new w _ _).alloc _
 have C1 : Cel (w.heap.size + 1) 40 #[.string ⟨#[]⟩, .int .i64 0, .int .i64 0, .int .i64 0, .int .i64 0, .int .i64 0, .int .i64 0, .int .i64 0, .int .i64 0, .slice none 0 0] W := by rw [hW]; exact Cel.new1 w _ _ _
 have c8 : W.cell? ⟨w.heap.size, 9, none⟩ = some (.slice a l.length cap) := C0.cell 9
 have HC0 : Hid _ := C0
 have HC1 : Hid _ := C1
 have HR : Hid _ := hr.off O
 have HO : Hid _ := O
 have HW : Hid _ := hW
 clear hr O C0 C1 hW
 go_enter Try.func61, Try.ntmps61
 go_upto_region 1 with fail
 rw [show ((w.alloc (.cells #[.string key, .int .i64 (f 0), .int .i64 (f 1), .int .i64 (f 2), .int .i64 (f 3), .int .i64 (f 4), .int .i64 (f 5), .int .i64 (f 6), .int .i64 (f 7), .slice a l.length cap] 40)).alloc (.cells #[.string ⟨#[]⟩, .int .i64 0, .int .i64 0, .int .i64 0, .int .i64 0, .int .i64 0, .int .i64 0, .int .i64 0, .int .i64 0, .slice none 0 0] 40)) = W from HW.out.symm]
 go_wp2_with fail
 refine (vclone_any a cap l hl W HR.out).mono ?_
 rintro e w1 ⟨t, c, rfl, own, hnew, o1⟩
 have D0 := HC0.out.off o1 (fun h => h)
 have D1 := HC1.out.off o1 (fun h => h)
 have f0 := D0.free
 have d8 : w1.cell? ⟨w.heap.size, 9, none⟩ = some (.slice a l.length cap) := D0.cell 9
 obtain ⟨W1, hW1⟩ : ∃ W1, W1 = w1.setCell ⟨w.heap.size, 9, none⟩ (.slice t l.length c) := ⟨_, rfl⟩
 have hne : ∀ k, blk t = some k → k ≠ w.heap.size ∧ k ≠ w.heap.size + 1 := fun k hk => by
  have h1 := hnew k hk
  have h2 := HC1.out.lt
  constructor <;> omega
 have E0 : Cel w.heap.size 40 #[.string key, .int .i64 (f 0), .int .i64 (f 1), .int .i64 (f 2), .int .i64 (f 3), .int .i64 (f 4), .int .i64 (f 5), .int .i64 (f 6), .int .i64 (f 7), .slice t l.length c] W1 := by
  rw [hW1]
  have := D0.set 9 (.slice t l.length c)
  simpa using this
 have E1 : Cel (w.heap.size + 1) 40 #[.string ⟨#[]⟩, .int .i64 0, .int .i64 0, .int .i64 0, .int .i64 0, .int .i64 0, .int .i64 0, .int .i64 0, .int .i64 0, .slice none 0 0] W1 := by rw [hW1]; exact D1.other (by simp) _
 have OW : Off (fun _ => False) w W1 := by rw [hW1]; exact (HO.out.trans o1 (fun _ _ h => h)).setCell (.inr (Nat.le_refl _)) _
 have own1 : OwnV W1 t c l := by
  rw [hW1]
  exact own.off (D := fun k => k = w.heap.size) ((Off.refl (fun k => k = w.heap.size) w1).setCell (.inl rfl) _) (fun k hk => (hne k hk).1)
 have row1 : Row W1 t c l := by
  refine own1.toRow (fun v hv => ?_)
  have := ((HR.out.off o1).ok v hv)
  rw [hW1]
  exact ⟨this.src.setN (fun k n e => by rw [D0.cell 9] at e; simp at e) _, this.lt, this.n0, this.n1, this.m0, this.m1, this.len⟩
 have k8 : W1.cell? ⟨w.heap.size, 9, none⟩ = some (.slice t l.length c) := E0.cell 9
 have hnew2 : ∀ k, blk t = some k → w.heap.size ≤ k := fun k hk => Nat.le_trans HO.out.size (hnew k hk)
 have HE0 : Hid _ := E0
 have HE1 : Hid _ := E1
 have HOW : Hid _ := OW
 have HOWN : Hid _ := own1
 have HROW : Hid _ := row1
 have HNE : Hid _ := hne
 have HNW : Hid _ := hnew2
 have HW1 : Hid _ := hW1
 clear D0 D1 E0 E1 OW own1 row1 hne hnew hnew2 own o1 hW1 c8 HC0 HC1 HR HO HW
 have c8 : (w1.setCell ⟨w.heap.size, 9, none⟩ (.slice t l.length c)).cell? ⟨w.heap.size, 9, none⟩ = some (.slice t l.length c) := by rw [← HW1.out]; exact k8
 go_upto_region 2 with fail
 rw [← HW1.out]
 clear c8 f0 d8
 go_wp2_with fail
 go_loopw [14] (fun y wr => ∃ (n : Nat) (k : List V), y = .int .i64 (n : Int) ∧ n ≤ l.length ∧ k.length = l.length ∧ cont k = cont l ∧ (∀ i v, i < n → k[i]? = some v → ∀ x, blk v.ad = some x → w.heap.size + 2 ≤ x) ∧ Row wr t c k ∧ Cel w.heap.size 40 #[.string key, .int .i64 (f 0), .int .i64 (f 1), .int .i64 (f 2), .int .i64 (f 3), .int .i64 (f 4), .int .i64 (f 5), .int .i64 (f 6), .int .i64 (f 7), .slice t l.length c] wr ∧ Cel (w.heap.size + 1) 40 #[.string ⟨#[]⟩, .int .i64 0, .int .i64 0, .int .i64 0, .int .i64 0, .int .i64 0, .int .i64 0, .int .i64 0, .int .i64 0, .slice none 0 0] wr ∧ (∀ v ∈ l, ∃ g cur, t = some ⟨g, 0, none⟩ ∧ Cel g 117 cur wr) ∧ Off (fun _ => False) w wr) (fun y _ => (l.length - intOf y).toNat)
 case atStart =>
  refine ⟨0, l, rfl, by omega, rfl, rfl, fun i v hi => by omega, HROW.out, HE0.out, HE1.out, fun v hv => ?_, HOW.out⟩
  rcases HOWN.out.row.2 with ⟨-, h0⟩ | ⟨g, c', cur, hvv, -, hh, -⟩
  ·rw [List.eq_nil_of_length_eq_zero h0] at hv
   simp at hv
  ·simp only [Value.slice.injEq] at hvv
   exact ⟨g, cur, hvv.1, ⟨hh⟩⟩
 case round =>
  clear HE0 HE1 HOW HOWN HROW HW1 k8
  obtain ⟨n, k, rfl, hn, hkl, hck, hbb, rw1, cb, cr, hgg, O⟩ := hrel
  have HBB : Hid _ := hbb
  have CB : Hid _ := cb
  have CR : Hid _ := cr
  have HK : Hid (cont k = cont l) := hck
  have HL : Hid (k.length = l.length) := hkl
  have HRW : Hid _ := rw1
  have HGG : Hid _ := hgg
  have HO : Hid _ := O
  clear cb cr hck hkl rw1 hgg O hbb
  by_cases hlt : n < l.length
  ·have e1 : decide ((n : Int) < (l.length : Int)) = true := decide_eq_true (by omega)
   have e2 : decide (n < l.length) = true := decide_eq_true hlt
   obtain ⟨v, hv⟩ : ∃ v, k[n]? = some v := ⟨_, List.getElem?_eq_getElem (by rw [HL.out]; exact hlt)⟩
   obtain ⟨g, cur, rfl, hg⟩ := HGG.out _ (List.getElem_mem hlt)
   have hgq := HNE.out g rfl
   have HGQ : Hid (¬ w.heap.size = g) := fun e => hgq.1 e.symm
   have hok := (HRW.out.off ((Off.refl _ wr).drew)).ok v (List.mem_of_getElem? hv)
   have HR9 : Hid _ := HRW.out.off ((Off.refl _ wr).drew)
   have c2 : wr.drew.cell? ⟨g, n * 4 + 2, none⟩ = some (.slice v.ad v.data.length v.cap) := (HR9.out.at0 hv).c2
   have HG : Hid _ := hg
   have HGN : Hid _ := HNW.out g rfl
   clear hg hgq
   go_wp2_with fail
   refine wp_region_held_drew (S := fun w' => Off (fun c => c = g) wr w') (by kernel_rfl) ((Off.refl _ wr).drew) (fun hS => ?_)
   refine take_at (i := 0) 17 (v := .pointer (some ⟨w.heap.size, 1, none⟩)) rfl rfl (by kernel_rfl) (by kernel_rfl) (by kernel_rfl) (fun _ _ _ h => h) (Or.inl ⟨by rfl, fun w' hw' => by go_simp⟩) hS ?_
   simp only [Act.put, lsA, lsZ, lsS]
   refine take_at (i := 1) 18 (v := .pointer (some ⟨w.heap.size, 9, none⟩)) rfl rfl (by kernel_rfl) (by kernel_rfl) (by kernel_rfl) (fun _ _ _ h => h) (Or.inl ⟨by rfl, fun w' hw' => by go_simp⟩) hS ?_
   simp only [Act.put, lsA, lsZ, lsS]
   refine take_at (i := 2) 19 (v := .slice (some ⟨g, 0, none⟩) l.length c) rfl rfl (by kernel_rfl) (by kernel_rfl) (by kernel_rfl) (fun _ _ _ h => h) (Or.inl ⟨by rfl, fun w' hw' => by obtain ⟨x0, x1, x2, x3, x4, x5, x6, x7, x8, x9⟩ := cel10 (CB.out.off hw' HGQ.out); go_simp⟩) hS ?_
   simp only [Act.put, lsA, lsZ, lsS]
   refine take_at (i := 3) 20 (v := .int .i64 (n : Int)) rfl rfl (by kernel_rfl) (by kernel_rfl) (by kernel_rfl) (fun _ _ _ h => h) (Or.inl ⟨by rfl, fun w' hw' => by go_simp⟩) hS ?_
   simp only [Act.put, lsA, lsZ, lsS]
   refine take_at (i := 4) 21 (v := .pointer (some ⟨w.heap.size, 1, none⟩)) rfl rfl (by kernel_rfl) (by kernel_rfl) (by kernel_rfl) (fun _ _ _ h => h) (Or.inl ⟨by rfl, fun w' hw' => by go_simp⟩) hS ?_
   simp only [Act.put, lsA, lsZ, lsS]
   refine take_at (i := 5) 22 (v := .pointer (some ⟨w.heap.size, 9, none⟩)) rfl rfl (by kernel_rfl) (by kernel_rfl) (by kernel_rfl) (fun _ _ _ h => h) (Or.inl ⟨by rfl, fun w' hw' => by go_simp⟩) hS ?_
   simp only [Act.put, lsA, lsZ, lsS]
   refine take_at (i := 6) 23 (v := .slice (some ⟨g, 0, none⟩) l.length c) rfl rfl (by kernel_rfl) (by kernel_rfl) (by kernel_rfl) (fun _ _ _ h => h) (Or.inl ⟨by rfl, fun w' hw' => by obtain ⟨x0, x1, x2, x3, x4, x5, x6, x7, x8, x9⟩ := cel10 (CB.out.off hw' HGQ.out); go_simp⟩) hS ?_
   simp only [Act.put, lsA, lsZ, lsS]
   refine take_at (i := 7) 24 (v := .int .i64 (n : Int)) rfl rfl (by kernel_rfl) (by kernel_rfl) (by kernel_rfl) (fun _ _ _ h => h) (Or.inl ⟨by rfl, fun w' hw' => by go_simp⟩) hS ?_
   simp only [Act.put, lsA, lsZ, lsS]
   refine take_at (i := 8) 25 (v := .pointer (some ⟨g, n * 4, none⟩)) rfl rfl (by kernel_rfl) (by kernel_rfl) (by kernel_rfl) (fun _ _ _ h => h) (Or.inl ⟨by rfl, fun w' hw' => exec_idx10 rfl (idx_row hlt c g w')⟩) hS ?_
   simp only [Act.put, lsA, lsZ, lsS]
   refine take_at (i := 9) 26 (v := .pointer (some ⟨g, n * 4 + 2, none⟩)) rfl rfl (by kernel_rfl) (by kernel_rfl) (by kernel_rfl) (fun _ _ _ h => h) (Or.inl ⟨by rfl, fun w' hw' => by go_simp⟩) hS ?_
   simp only [Act.put, lsA, lsZ, lsS]
   refine wpAnyH_ready (rs := [10]) (by kernel_rfl) (by simp) ?_
   refine AllReadyH.cons rfl (fun K' hK' => ?_) AllReadyH.nil
   go_simp
   refine hK'.out _ _ hS (fun hS => ?_)
   clear hK' K'
   refine wpAnyH_ready (rs := [11]) (by kernel_rfl) (by simp) ?_
   refine AllReadyH.cons rfl (fun K' hK' => ?_) AllReadyH.nil
   go_simp
   refine (bclone_any v.ad v.cap v.data (by have := hok.len; omega) _ hok.src).mono ?_
   rintro e w9 ⟨t, c1, rfl, own, hnw, o9⟩
   have hS9 : Off (fun c => c = g) wr w9 := hS.trans o9 (fun _ _ h => h.elim)
   refine hK'.out _ _ hS9 (fun hS => ?_)
   clear hK' K' hS9
   refine take_at (i := 12) 29 (v := .pointer (some ⟨g, n * 4, none⟩)) rfl rfl (by kernel_rfl) (by kernel_rfl) (by kernel_rfl) (fun _ _ _ h => h) (Or.inl ⟨by rfl, fun w' hw' => exec_idx10 rfl (idx_row hlt c g w')⟩) hS ?_
   simp only [Act.put, lsA, lsZ, lsS]
   refine take_at (i := 13) 30 (v := .pointer (some ⟨g, n * 4 + 2, none⟩)) rfl rfl (by kernel_rfl) (by kernel_rfl) (by kernel_rfl) (fun _ _ _ h => h) (Or.inl ⟨by rfl, fun w' hw' => by go_simp⟩) hS ?_
   simp only [Act.put, lsA, lsZ, lsS]
   have R9 := HR9.out.off o9
   obtain ⟨cur9, hg9⟩ : ∃ cur, Cel g 117 cur w9 := ⟨_, HG.out.off (((Off.refl _ wr).drew).trans o9 (fun _ _ h => h)) (fun h => h)⟩
   have f9 := hg9.free
   have hc2 : w9.cell? ⟨g, n * 4 + 2, none⟩ = some (.slice v.ad v.data.length v.cap) := (R9.at0 hv).c2
   have R10 := R9.setData hv own.src
   have HNW9 : Hid (∀ x, blk t = some x → w.heap.size + 2 ≤ x) := fun x hx => by have h1 := hnw x hx; have h2 := CR.out.lt; have h3 : wr.drew.heap.size = wr.heap.size := rfl; omega
   clear hnw
   have HOW : Hid _ := own
   have HR10 : Hid _ := R10
   have HG9 : Hid _ := hg9
   have HO9 : Hid _ := o9
   clear own R9 R10 hg9 o9
   refine wpAnyH_ready (rs := [14]) (by kernel_rfl) (by simp) ?_
   refine AllReadyH.cons rfl (fun K' hK' => ?_) AllReadyH.nil
   go_simp
   refine hK'.out _ _ (hS.setCell (p := ⟨g, n * 4 + 2, none⟩) (.inl rfl) _) (fun hS => ?_)
   clear hK' K'
   refine wpAnyH_done (by kernel_rfl) ?_ _
   go_wp2_with fail
   go_roundw
   case rel =>
    have o12 : Off (fun c => c = g) wr (w9.setCell ⟨g, n * 4 + 2, none⟩ (.slice t v.data.length c1)) := hS
    refine ⟨n + 1, k.set n (⟨v.node, v.num, t, c1, v.data, v.dead⟩ : V), by go_num, by omega, by rw [List.length_set]; exact HL.out, by rw [cont_set hv]; exact HK.out, set_far hv HBB.out HNW9.out, HR10.out, CB.out.off o12 HGQ.out, CR.out.off o12 (fun e => (HNE.out g rfl).2 e.symm), fun u hu => ⟨g, _, rfl, HG9.out.set _ _⟩, HO.out.trans o12 (fun i hi h => ?_)⟩
    have := HGN.out
    omega
   case measure => simp [intOf]; omega
  ·obtain rfl : n = l.length := by omega
   have e1 : decide ((l.length : Int) < (l.length : Int)) = false := decide_eq_false (by omega)
   have e2 : decide (l.length < l.length) = false := decide_eq_false (by omega)
   obtain ⟨x0, x1, x2, x3, x4, x5, x6, x7, x8, x9⟩ := cel10 CB.out
   obtain ⟨z0, z1, z2, z3, z4, z5, z6, z7, z8, z9⟩ := cel10 CR.out
   have fr := CR.out.free
   go_wp2_with fail
   refine bodyPost_ret (results_ent rfl rfl (CR.out.sd10 key f (.slice t l.length c))) rfl ?_
   refine ⟨t, c, k, by rw [HL.out], HK.out, ?_, ⟨HNW.out, fun v hv x hx => by
    obtain ⟨i, hi⟩ := List.getElem?_of_mem hv
    have hil : i < l.length := by
     obtain ⟨h, -⟩ := List.getElem?_eq_some_iff.1 hi
     rw [HL.out] at h
     exact h
    have := HBB.out i v hil hi x hx
    omega⟩, HO.out.sd10 (.inr (by omega)) key f (.slice t l.length c)⟩
   exact HRW.out.offD (D := fun x => x = w.heap.size + 1) ((Off.refl (fun x => x = w.heap.size + 1) wr).sd10 (.inl rfl) key f (.slice t l.length c)) (fun x _ hx => (HNE.out x hx).2) (fun v hv x _ hx => by
    obtain ⟨i, hi⟩ := List.getElem?_of_mem hv
    have hil : i < l.length := by
     obtain ⟨h, -⟩ := List.getElem?_eq_some_iff.1 hi
     rw [HL.out] at h
     exact h
    have := HBB.out i v hil hi x hx
    omega)
end Go.Proofs.Ytpnnpdfmoldiiaa

namespace Go.Proofs.Ytpnnpdfmoldiiaa
open Go.RowKit
theorem putS_len (most : Nat) (st : Option (List Nat)) (x : List Nat) : ((putS most st x).getD []).length ≤ (st.getD []).length + x.length := by
 cases st with
 | none => simp [putS]
 | some bs =>
  simp only [putS]
  split
  ·simp
  ·simp
theorem numB_zig {i : Int} (h0 : -9223372036854775808 ≤ i) (h1 : i ≤ 9223372036854775807) : (numB (zig i)).length ≤ 10 := numB_ten (zig_lt h0 h1)
theorem wrV_len (most : Nat) (st : Option (List Nat)) (f : Nat → Int) (hr : ∀ j, j < 8 → -9223372036854775808 ≤ f j ∧ f j ≤ 9223372036854775807) : ∀ n, n ≤ 8 → ((wrV most st f n).getD []).length ≤ (st.getD []).length + 10 * n
 | 0, _ => by simp [wrV]
 | n + 1, h => by
  have h1 := wrV_len most st f hr n (by omega)
  have h2 := putS_len most (wrV most st f n) (numB (zig (f n)))
  have h3 := numB_zig (hr n (by omega)).1 (hr n (by omega)).2
  simp only [wrV]
  omega
def vsum (l : List A) : Nat := (l.map fun x => 31 + x.data.length).sum
theorem wrL_len (most : Nat) : ∀ (st : Option (List Nat)) (l : List A), (∀ x ∈ l, (-9223372036854775808 ≤ x.num ∧ x.num ≤ 9223372036854775807) ∧ x.data.length < 18446744073709551616) → ((wrL most st l).getD []).length ≤ (st.getD []).length + vsum l
 | st, [], _ => by simp [wrL, vsum]
 | st, x :: l, h => by
  obtain ⟨⟨a1, a2⟩, a3⟩ := h x (by simp)
  have h1 := wrL_len most (wrVal most st x) l (fun y hy => h y (by simp [hy]))
  have b1 := putS_len most st (numB (u64N x.node))
  have b2 := putS_len most (putS most st (numB (u64N x.node))) (numB (zig x.num))
  have b3 := putS_len most (putS most (putS most st (numB (u64N x.node))) (numB (zig x.num))) [if x.dead then 1 else 0]
  have b4 := putS_len most (putS most (putS most (putS most st (numB (u64N x.node))) (numB (zig x.num))) [if x.dead then 1 else 0]) (numB x.data.length ++ x.data)
  have c1 := numB_ten (u64N_lt x.node)
  have c2 := numB_zig a1 a2
  have c3 := numB_ten a3
  rw [List.length_append] at b4
  have c4 : ([if x.dead then 1 else 0] : List Nat).length = 1 := rfl
  have e : wrL most st (x :: l) = wrL most (wrVal most st x) l := rfl
  have e2 : vsum (x :: l) = 31 + x.data.length + vsum l := by simp [vsum]
  have e3 : wrVal most st x = putS most (putS most (putS most (putS most st (numB (u64N x.node))) (numB (zig x.num))) [if x.dead then 1 else 0]) (numB x.data.length ++ x.data) := rfl
  rw [e, e2]
  rw [← e3] at b4
  omega
theorem vsum_take (l : List V) {n : Nat} {x : V} (h : l[n]? = some x) : vsum (cont (l.take n)) + 31 + x.data.length ≤ vsum (cont l) := by
 obtain ⟨hn, e⟩ := List.getElem?_eq_some_iff.1 h
 have e1 : l = l.take n ++ x :: l.drop (n + 1) := by
  rw [← e, ← List.drop_eq_getElem_cons hn, List.take_append_drop]
 have e2 : vsum (cont l) = vsum (cont (l.take n)) + (31 + x.data.length + vsum (cont (l.drop (n + 1)))) := by
  conv => lhs; rw [e1]
  simp [vsum, cont, V.abs]
 omega
set_option maxRecDepth 100000 in
theorem vwriteB_any {D : Nat → Prop} {b most : Nat} {st : Option (List Nat)} {w : World} (hW : Wtr D b most st w) (hB : (st.getD []).length + 90 ≤ 140737488355328) (f : Nat → Int) (hr : ∀ j, j < 8 → -9223372036854775808 ≤ f j ∧ f j ≤ 9223372036854775807) :
  Calls Try.prog 63 #[.pointer (some ⟨b, 0, none⟩), .agg #[.int .i64 (f 0), .int .i64 (f 1), .int .i64 (f 2), .int .i64 (f 3), .int .i64 (f 4), .int .i64 (f 5), .int .i64 (f 6), .int .i64 (f 7)]] w fun e w' => e = .returned (.tuple #[]) ∧ ∃ D', Wtr D' b most (wrV most st f 8) w' ∧ Off D w w' ∧ ∀ c, D' c → D c ∨ w.heap.size ≤ c := by
 have HW : Hid _ := hW
 clear hW
 go_enter Try.func63, Try.ntmps63
 go_wp2_with fail
 go_loopw [7] (fun y wr => ∃ (n : Nat) (D' : Nat → Prop), y = .int .i64 (n : Int) ∧ n ≤ 8 ∧ Wtr D' b most (wrV most st f n) wr ∧ Off D w wr ∧ ∀ c, D' c → D c ∨ w.heap.size ≤ c) (fun y _ => (8 - intOf y).toNat)
 case atStart => exact ⟨0, D, rfl, by omega, HW.out.off ((Off.refl (fun _ => False) w).alloc _) (fun _ _ _ h => h), (Off.refl _ w).alloc _, fun c h => .inl h⟩
 case round =>
  obtain ⟨n, D', rfl, hn, hw, O, hD⟩ := hrel
  have HW' : Hid _ := hw
  have HD : Hid _ := hD
  clear hw hD
  by_cases h : n < 8
  ·have hd : decide ((n : Int) < 8) = true := by simp; omega
   have hi := idx_vec f h
   have hl := wrV_len most st f hr n (by omega)
   go_wp2_with fail
   refine (wint_any HW'.out (f n) (hr n h).1 (hr n h).2 (.inl (by omega))).mono ?_
   rintro e v ⟨rfl, E, W1, o1, hE⟩
   have HW1 : Hid _ := W1
   have HE : Hid _ := hE
   clear W1 hE
   go_wp2_with fail
   go_roundw
   case rel =>
    refine ⟨n + 1, E, by go_num, by omega, HW1.out, O.trans o1 (fun i hi h => (HD.out i h).elim id (fun h2 => by omega)), fun c hc => ?_⟩
    rcases HE.out c hc with h1 | h1
    ·exact HD.out c h1
    ·exact .inr (Nat.le_trans O.size h1)
   case measure => simp [intOf]; omega
  ·obtain rfl : n = 8 := by omega
   go_wp2_with fail
   first | go_end0 | refine bodyPost_ret (results_none rfl _ _ _) rfl ?_
   exact ⟨rfl, D', HW'.out, O, HD.out⟩
set_option maxRecDepth 100000 in
set_option maxHeartbeats 2000000 in
theorem swriteB_any {D : Nat → Prop} {b most : Nat} {st : Option (List Nat)} {w : World} (hW : Wtr D b most st w) (f : Nat → Int) (hr : ∀ j, j < 8 → -9223372036854775808 ≤ f j ∧ f j ≤ 9223372036854775807) (a : Option Addr) (ca : Nat) (l : List V) (hB : (st.getD []).length + 110 + vsum (cont l) ≤ 140737488355328) (hrow : ∀ w', Off D w w' → Row w' a ca l) :
  Calls Try.prog 90 #[.pointer (some ⟨b, 0, none⟩), .agg #[.int .i64 (f 0), .int .i64 (f 1), .int .i64 (f 2), .int .i64 (f 3), .int .i64 (f 4), .int .i64 (f 5), .int .i64 (f 6), .int .i64 (f 7), .slice a l.length ca]] w fun e w' => e = .returned (.tuple #[]) ∧ ∃ D', Wtr D' b most (wrS most st f (cont l)) w' ∧ Off D w w' ∧ ∀ c, D' c → D c ∨ w.heap.size ≤ c := by
 have hlb : l.length ≤ 9223372036854775807 := by have h := hrow w (Off.refl _ w); have h1 := h.len; have h2 := h.bound; omega
 have hu0 : IntKind.u64.wrap ((l.length : Nat) : Int) = ((l.length : Nat) : Int) := by
  simp only [IntKind.wrap, IntKind.bits, IntKind.signed]
  go_num
 have HRW : Hid _ := hrow
 have C0 := Cel.new w 38 #[.int .i64 (f 0), .int .i64 (f 1), .int .i64 (f 2), .int .i64 (f 3), .int .i64 (f 4), .int .i64 (f 5), .int .i64 (f 6), .int .i64 (f 7), .slice a l.length ca]
 have O0 : Off (fun _ => False) w (w.alloc (.cells #[.int .i64 (f 0), .int .i64 (f 1), .int .i64 (f 2), .int .i64 (f 3), .int .i64 (f 4), .int .i64 (f 5), .int .i64 (f 6), .int .i64 (f 7), .slice a l.length ca] 38)) := (Off.refl _ w).alloc _
 have HWA : Hid _ := hW.off O0 (fun _ _ _ h => h)
 have HL0 : Hid (¬ D w.heap.size) := fun h => by have := hW.lt _ h; omega
 clear hrow hW
 go_enter Try.func90, Try.ntmps90
 go_upto_region 1 with fail
 have hq0 : w.heap.size < (w.alloc (.cells #[.int .i64 (f 0), .int .i64 (f 1), .int .i64 (f 2), .int .i64 (f 3), .int .i64 (f 4), .int .i64 (f 5), .int .i64 (f 6), .int .i64 (f 7), .slice a l.length ca] 38)).heap.size := by simp [World.size_alloc]
 generalize hq : w.heap.size = q at C0 HL0 hq0 ⊢
 generalize hv : w.alloc (.cells #[.int .i64 (f 0), .int .i64 (f 1), .int .i64 (f 2), .int .i64 (f 3), .int .i64 (f 4), .int .i64 (f 5), .int .i64 (f 6), .int .i64 (f 7), .slice a l.length ca] 38) = W at C0 O0 HWA hq0 ⊢
 have HQ : Hid (w.heap.size ≤ q ∧ q < W.heap.size) := ⟨by omega, hq0⟩
 clear hq hv hq0
 have HO0 : Hid (Off D w W) := O0.mono (fun _ _ h => h.elim)
 obtain ⟨x0, x1, x2, x3, x4, x5, x6, x7, x8⟩ := cel9 C0
 have HC0 : Hid _ := C0
 clear C0 O0
 go_wp2_with fail
 clear x0 x1 x2 x3 x4 x5 x6 x7 x8
 refine (vwriteB_any HWA.out (by omega) f hr).mono ?_
 rintro e w1 ⟨rfl, D1, W1, o1, d1⟩
 have HW1 : Hid _ := W1
 have HD1 : Hid (∀ c, D1 c → D c ∨ W.heap.size ≤ c) := d1
 have HC1 : Hid _ := HC0.out.off o1 HL0.out
 have HO1 : Hid (Off D w w1) := HO0.out.trans o1 (fun _ _ h => h)
 have hz1 := o1.size
 have HZ1 : Hid _ := hz1
 clear W1 o1 d1 HC0 HO0 HWA hz1
 obtain ⟨x0, x1, x2, x3, x4, x5, x6, x7, x8⟩ := cel9 HC1.out
 go_wp2_with fail
 clear x0 x1 x2 x3 x4 x5 x6 x7 x8
 have hl1 := wrV_len most st f hr 8 (Nat.le_refl _)
 refine (wnum_any HW1.out l.length (by omega) (.inl (by omega))).mono ?_
 rintro e w2 ⟨rfl, D2, W2, o2, d2⟩
 have HW2 : Hid _ := W2
 have HN1 : Hid (¬ D1 q) := fun h => (HD1.out q h).elim HL0.out (fun h2 => by have := HQ.out.2; omega)
 have HD2 : Hid (∀ c, D2 c → D c ∨ w.heap.size ≤ c) := fun c hc => (d2 c hc).elim (fun h => (HD1.out c h).imp id (fun h => by have := HQ.out; omega)) (fun h => by have := HZ1.out; have := HQ.out; exact .inr (by omega))
 have HN2 : Hid (¬ D2 q) := fun h => (d2 q h).elim HN1.out (fun h2 => by have := HQ.out.2; have := HZ1.out; omega)
 have HC2 : Hid _ := HC1.out.off o2 HN1.out
 have HO2 : Hid (Off D w w2) := HO1.out.trans o2 (fun i hi h => (HD1.out i h).elim id (fun h2 => by have := HQ.out; omega))
 have HZ2 : Hid (W.heap.size ≤ w2.heap.size) := Nat.le_trans HZ1.out o2.size
 clear W2 o2 d2 HC1 HO1 HW1 HD1 HN1
 have hl2 := putS_len most (wrV most st f 8) (numB l.length)
 have hl9 := numB_ten (n := l.length) (by omega)
 obtain ⟨st2, hst2⟩ : ∃ s, s = putS most (wrV most st f 8) (numB l.length) := ⟨_, rfl⟩
 rw [← hst2] at HW2 hl2
 have HST2 : Hid _ := hst2
 have HBL : Hid (∀ n x, l[n]? = some x → ((wrL most st2 (cont (l.take n))).getD []).length + 41 + x.data.length ≤ 140737488355328) := fun n x hx => by
  have hro := HRW.out w (Off.refl _ w)
  have hv : ∀ y ∈ cont l, (-9223372036854775808 ≤ y.num ∧ y.num ≤ 9223372036854775807) ∧ y.data.length < 18446744073709551616 := fun y hy => by
   simp only [cont, List.mem_map] at hy
   obtain ⟨v, hv, rfl⟩ := hy
   have := hro.ok v hv
   have h3 := this.len
   exact ⟨⟨this.m0, this.m1⟩, by show v.data.length < _; omega⟩
  have h1 := wrL_len most st2 (cont (l.take n)) (fun y hy => hv y (by
   simp only [cont, List.mem_map] at hy ⊢
   obtain ⟨v, hv, rfl⟩ := hy
   exact ⟨v, List.mem_of_mem_take hv, rfl⟩))
  have h2 := vsum_take l hx
  have h8 := wrV_len most st f hr 8 (Nat.le_refl _)
  omega
 clear hst2 hl1
 obtain ⟨x0, x1, x2, x3, x4, x5, x6, x7, x8⟩ := cel9 HC2.out
 go_wp2_with fail
 clear x0 x1 x2 x3 x4 x5 x6 x7 x8
 go_loopw [19] (fun y wr => ∃ (n : Nat) (D' : Nat → Prop), y = .int .i64 (n : Int) ∧ n ≤ l.length ∧ Wtr D' b most (wrL most st2 (cont (l.take n))) wr ∧ Off D w wr ∧ ∀ c, D' c → D c ∨ w.heap.size ≤ c) (fun y _ => (l.length - intOf y).toNat)
 case atStart => exact ⟨0, D2, rfl, by omega, by simpa [wrL, cont] using HW2.out, HO2.out, HD2.out⟩
 case round =>
  clear HW2 HO2 HD2 HN2 HC2 HZ2
  obtain ⟨n, D', rfl, hn, hw, O, hD⟩ := hrel
  by_cases hln : n < l.length
  ·have i1 : decide ((n : Int) < (l.length : Int)) = true := decide_eq_true (by omega)
   have i2 : decide (n < l.length) = true := decide_eq_true hln
   obtain ⟨x, hx⟩ : ∃ x, l[n]? = some x := ⟨_, List.getElem?_eq_getElem hln⟩
   obtain ⟨ba, fa, hay, h4, hvx⟩ := (HRW.out wr O).at_ n x hx
   obtain ⟨c0, c1, c2, c3⟩ := h4
   have HRO : Hid (∀ w', Off D w w' → VOk w' x) := fun w' o => by
    obtain ⟨_, _, _, _, h⟩ := (HRW.out w' o).at_ n x hx
    exact h
   have hstep : wrL most st2 (cont (l.take (n + 1))) = wrVal most (wrL most st2 (cont (l.take n))) x.abs := wrL_step hx
   have hlw := HBL.out n x hx
   obtain ⟨s0, hs0⟩ : ∃ s, s = wrL most st2 (cont (l.take n)) := ⟨_, rfl⟩
   rw [← hs0] at hstep hlw hw
   have HSTEP : Hid _ := hstep
   have HWR : Hid _ := hw
   have HDD : Hid _ := hD
   have eu := u64_wrap x.node
   have hun := u64N_lt x.node
   have hvk := hvx
   clear hs0 hstep hx hw hD
   subst hay
   go_upto_region 6 with fail
   have CX := Cel.new wr 117 #[.int .i64 x.node, .int .i64 x.num, .slice x.ad x.data.length x.cap, .bool x.dead]
   have OA : Off (fun _ => False) wr (wr.alloc (.cells #[.int .i64 x.node, .int .i64 x.num, .slice x.ad x.data.length x.cap, .bool x.dead] 117)) := (Off.refl _ wr).alloc _
   have hqz : wr.heap.size < (wr.alloc (.cells #[.int .i64 x.node, .int .i64 x.num, .slice x.ad x.data.length x.cap, .bool x.dead] 117)).heap.size := by simp [World.size_alloc]
   have hq1 := HWR.out.lt
   generalize hq : wr.heap.size = qx at CX hqz hq1 ⊢
   have hq2 : w.heap.size ≤ qx := by have := O.size; omega
   have HW3 := HWR.out.off OA (fun _ _ _ h => h)
   generalize hv : wr.alloc (.cells #[.int .i64 x.node, .int .i64 x.num, .slice x.ad x.data.length x.cap, .bool x.dead] 117) = v0 at CX OA hqz HW3 ⊢
   have O1 : Off D w v0 := O.trans (OA.mono (fun _ _ h => h.elim)) (fun _ _ h => h)
   have hD0 : ∀ c, D' c → D c ∨ w.heap.size ≤ c := HDD.out
   have hN0 : ¬ D' qx := fun h => by have := hq1 qx h; omega
   clear hv hq c0 c1 c2 c3 OA O hq1 HWR HDD
   obtain ⟨e0, e1, e2, e3⟩ := cel4 CX
   go_wp2_with fail
   clear e0 e1 e2 e3
   refine (wnum_any HW3 (u64N x.node) hun (.inl (by omega))).mono ?_
   rintro e v1 ⟨rfl, E1, W1, o1, g1⟩
   have CX1 := CX.off o1 hN0
   have O2 : Off D w v1 := O1.trans o1 (fun k hk h => (hD0 k h).elim id (fun h2 => by omega))
   have hD1 : ∀ c, E1 c → D c ∨ w.heap.size ≤ c := fun c hc => (g1 c hc).elim (hD0 c) (fun h => .inr (Nat.le_trans O1.size h))
   have hN1 : ¬ E1 qx := fun h => (g1 qx h).elim hN0 (fun h => by omega)
   have hn1 := numB_ten hun
   have hl1 := putS_len most s0 (numB (u64N x.node))
   have hz1 : qx < v1.heap.size := Nat.lt_of_lt_of_le hqz o1.size
   clear HW3 CX O1 o1 g1 hD0 hN0 hqz
   obtain ⟨e0, e1, e2, e3⟩ := cel4 CX1
   go_wp2_with fail
   clear e0 e1 e2 e3
   refine (wint_any W1 x.num hvk.m0 hvk.m1 (.inl (by omega))).mono ?_
   rintro e v2 ⟨rfl, E2, W2, o2, g2⟩
   have CX2 := CX1.off o2 hN1
   have O3 : Off D w v2 := O2.trans o2 (fun k hk h => (hD1 k h).elim id (fun h2 => by omega))
   have hD2 : ∀ c, E2 c → D c ∨ w.heap.size ≤ c := fun c hc => (g2 c hc).elim (hD1 c) (fun h => .inr (Nat.le_trans O2.size h))
   have hN2 : ¬ E2 qx := fun h => (g2 qx h).elim hN1 (fun h => by omega)
   have hn3 := numB_zig hvk.m0 hvk.m1
   have hl3 := putS_len most (putS most s0 (numB (u64N x.node))) (numB (zig x.num))
   have hz2 : qx < v2.heap.size := Nat.lt_of_lt_of_le hz1 o2.size
   clear W1 CX1 O2 o2 g2 hD1 hN1 hz1
   obtain ⟨e0, e1, e2, e3⟩ := cel4 CX2
   go_wp2_with fail
   clear e0 e1 e2 e3
   refine (wflag_any W2 x.dead (.inl (by omega))).mono ?_
   rintro e v3 ⟨rfl, E3, W3, o3, g3⟩
   have CX3 := CX2.off o3 hN2
   have O4 : Off D w v3 := O3.trans o3 (fun k hk h => (hD2 k h).elim id (fun h2 => by omega))
   have hD3 : ∀ c, E3 c → D c ∨ w.heap.size ≤ c := fun c hc => (g3 c hc).elim (hD2 c) (fun h => .inr (Nat.le_trans O3.size h))
   have hl4 := putS_len most (putS most (putS most s0 (numB (u64N x.node))) (numB (zig x.num))) [if x.dead then 1 else 0]
   have hl5 : ([if x.dead then 1 else 0] : List Nat).length = 1 := rfl
   clear W2 CX2 O3 o3 g3 hD2 hN2 hz2
   obtain ⟨e0, e1, e2, e3⟩ := cel4 CX3
   go_wp2_with fail
   clear e0 e1 e2 e3
   refine (wtext_any W3 x.ad x.cap x.data (fun w' o => (HRO.out _ (O4.trans o (fun k hk h => (hD3 k h).elim id (fun h2 => by omega)))).src) (.inl (by omega))).mono ?_
   rintro e v4 ⟨rfl, E4, W4, o4, g4⟩
   have O5 : Off D w v4 := O4.trans o4 (fun k hk h => (hD3 k h).elim id (fun h2 => by omega))
   have hD4 : ∀ c, E4 c → D c ∨ w.heap.size ≤ c := fun c hc => (g4 c hc).elim (hD3 c) (fun h => .inr (Nat.le_trans O4.size h))
   have HF : Hid (Wtr E4 b most (wrL most st2 (cont (l.take (n + 1)))) v4) := by rw [HSTEP.out]; exact W4
   have HO5 : Hid _ := O5
   have HD4 : Hid _ := hD4
   clear W3 W4 CX3 O4 O5 o4 g4 hD3 hD4 hl1 hl3 hl4 hl5 hn1 hn3 hlw HSTEP
   go_wp2_with fail
   go_roundw
   case rel => exact ⟨n + 1, E4, by go_num, by omega, HF.out, HO5.out, HD4.out⟩
   case measure => simp [intOf]; omega
  ·have i1 : decide ((n : Int) < (l.length : Int)) = false := decide_eq_false (by omega)
   have i2 : decide (n < l.length) = false := decide_eq_false hln
   have hF : Wtr D' b most (wrS most st f (cont l)) wr := by
    have e : n = l.length := by omega
    rw [e, List.take_length, HST2.out] at hw
    simpa [wrS, cont_len] using hw
   have HF : Hid _ := hF
   have HO : Hid _ := O
   have HDD : Hid _ := hD
   clear hF hw O hD
   go_wp2_with fail
   first | go_end0 | refine bodyPost_ret (results_none rfl _ _ _) rfl ?_
   exact ⟨rfl, D', HF.out, HO.out, HDD.out⟩
set_option maxRecDepth 100000 in
set_option maxHeartbeats 1000000 in
theorem writeEntryB_any {D : Nat → Prop} {b most : Nat} {st : Option (List Nat)} {w : World} (hW : Wtr D b most st w) (key : ByteArray) (hks : key.size ≤ 140737488351232) (f : Nat → Int) (hr : ∀ j, j < 8 → -9223372036854775808 ≤ f j ∧ f j ≤ 9223372036854775807) (a : Option Addr) (ca : Nat) (l : List V) (hB : (st.getD []).length + 120 + key.size + vsum (cont l) ≤ 140737488355328) (hrow : ∀ w', Off D w w' → Row w' a ca l) :
  Calls Try.prog 51 #[.pointer (some ⟨b, 0, none⟩), .agg #[.string key, .int .i64 (f 0), .int .i64 (f 1), .int .i64 (f 2), .int .i64 (f 3), .int .i64 (f 4), .int .i64 (f 5), .int .i64 (f 6), .int .i64 (f 7), .slice a l.length ca]] w fun e w' => e = .returned (.tuple #[]) ∧ ∃ D', Wtr D' b most (wrE most st key f (cont l)) w' ∧ Off D w w' ∧ ∀ c, D' c → D c ∨ w.heap.size ≤ c := by
 have C := Cel.new w 40 #[.string key, .int .i64 (f 0), .int .i64 (f 1), .int .i64 (f 2), .int .i64 (f 3), .int .i64 (f 4), .int .i64 (f 5), .int .i64 (f 6), .int .i64 (f 7), .slice a l.length ca]
 have O : Off (fun _ => False) w (w.alloc (.cells #[.string key, .int .i64 (f 0), .int .i64 (f 1), .int .i64 (f 2), .int .i64 (f 3), .int .i64 (f 4), .int .i64 (f 5), .int .i64 (f 6), .int .i64 (f 7), .slice a l.length ca] 40)) := (Off.refl _ w).alloc _
 have hlt0 := hW.lt
 have W0 := hW.off O (fun _ _ _ h => h)
 have HRW : Hid _ := hrow
 have hz : w.heap.size < (w.alloc (.cells #[.string key, .int .i64 (f 0), .int .i64 (f 1), .int .i64 (f 2), .int .i64 (f 3), .int .i64 (f 4), .int .i64 (f 5), .int .i64 (f 6), .int .i64 (f 7), .slice a l.length ca] 40)).heap.size := by simp [World.size_alloc]
 clear hW hrow
 go_enter Try.func51, Try.ntmps51
 go_upto_region 1 with fail
 generalize hq : w.heap.size = q at C hz ⊢
 have HQ : Hid (w.heap.size ≤ q) := by show _ ≤ _; omega
 have hdq : ¬ D q := fun h => by have := hlt0 q h; omega
 generalize hv : w.alloc (.cells #[.string key, .int .i64 (f 0), .int .i64 (f 1), .int .i64 (f 2), .int .i64 (f 3), .int .i64 (f 4), .int .i64 (f 5), .int .i64 (f 6), .int .i64 (f 7), .slice a l.length ca] 40) = W at C O W0 hz ⊢
 clear hq hv hlt0
 obtain ⟨kl, hkl⟩ : ∃ x, x = keyL key := ⟨_, rfl⟩
 obtain ⟨kc, W1, hrun, hsrc, o1⟩ := conv_key key W
 rw [← hkl] at hrun hsrc
 have hkz : kl.length ≤ 140737488351232 := by rw [hkl, keyL_len]; exact hks
 have hky : kl.length ≤ key.size := by rw [hkl, keyL_len]; exact Nat.le_refl _
 have c0 : W.cell? ⟨q, 0, none⟩ = some (.string key) := C.cell 0
 have W2 := W0.off o1 (fun _ _ _ h => h)
 have C1 := C.off o1 (fun h => h)
 have O1 : Off D w W1 := (O.trans o1 (fun _ _ h => h)).mono (fun _ _ h => h.elim)
 have HDL : Hid (∀ c, D c → c < W.heap.size) := W0.lt
 have HKS : Hid _ := hsrc
 have HKL : Hid _ := hkl
 have hz1 := o1.size
 clear W0 C O o1 hsrc hkl
 go_wp2_with fail
 clear c0 hrun
 refine (wtext_any W2 _ kc kl (fun w' o => HKS.out.off o (fun c hc hb h => by simp [blk] at hb; have := HDL.out c h; omega)) (.inl (by omega))).mono ?_
 rintro e v1 ⟨rfl, D1, W3, o2, d1⟩
 have C2 := C1.off o2 hdq
 have O2 : Off D w v1 := O1.trans o2 (fun _ _ h => h)
 have hn1 := numB_ten (n := kl.length) (by omega)
 have hl0 := putS_len most st (numB kl.length ++ kl)
 rw [List.length_append] at hl0
 have hD1 : ∀ c, D1 c → D c ∨ w.heap.size ≤ c := fun c hc => (d1 c hc).imp id (fun h => Nat.le_trans O1.size h)
 have HC2 : Hid _ := C2
 have HO2 : Hid _ := O2
 have HD1 : Hid _ := hD1
 have HW3 : Hid _ := W3
 have k1 : v1.cell? ⟨q, 1, none⟩ = some (.int .i64 (f 0)) := C2.cell 1
 have k2 : v1.cell? ⟨q, 2, none⟩ = some (.int .i64 (f 1)) := C2.cell 2
 have k3 : v1.cell? ⟨q, 3, none⟩ = some (.int .i64 (f 2)) := C2.cell 3
 have k4 : v1.cell? ⟨q, 4, none⟩ = some (.int .i64 (f 3)) := C2.cell 4
 have k5 : v1.cell? ⟨q, 5, none⟩ = some (.int .i64 (f 4)) := C2.cell 5
 have k6 : v1.cell? ⟨q, 6, none⟩ = some (.int .i64 (f 5)) := C2.cell 6
 have k7 : v1.cell? ⟨q, 7, none⟩ = some (.int .i64 (f 6)) := C2.cell 7
 have k8 : v1.cell? ⟨q, 8, none⟩ = some (.int .i64 (f 7)) := C2.cell 8
 have k9 : v1.cell? ⟨q, 9, none⟩ = some (.slice a l.length ca) := C2.cell 9
 clear W2 C1 C2 O1 O2 o2 d1 hD1 W3 hz1
 go_wp2_with fail
 clear k1 k2 k3 k4 k5 k6 k7 k8 k9
 refine (swriteB_any HW3.out f hr a ca l (by omega) (fun w' o => HRW.out w' (HO2.out.trans o (fun k hk h => (HD1.out k h).elim id (fun h2 => by omega))))).mono ?_
 rintro e v2 ⟨rfl, D2, W4, o3, d2⟩
 have HF : Hid (Wtr D2 b most (wrE most st key f (cont l)) v2) := by show Wtr D2 b most (wrE most st key f (cont l)) v2; unfold wrE; rw [← HKL.out]; exact W4
 have HO3 : Hid (Off D w v2) := HO2.out.trans o3 (fun k hk h => (HD1.out k h).elim id (fun h2 => by omega))
 have HD2 : Hid (∀ c, D2 c → D c ∨ w.heap.size ≤ c) := fun c hc => (d2 c hc).elim (HD1.out c) (fun h => .inr (Nat.le_trans HO2.out.size h))
 clear W4 o3 d2
 go_wp2_with fail
 first | go_end0 | refine bodyPost_ret (results_none rfl _ _ _) rfl ?_
 exact ⟨rfl, D2, HF.out, HO3.out, HD2.out⟩
end Go.Proofs.Ytpnnpdfmoldiiaa

namespace Go.Proofs.Ytpnnpdfmoldiiaa
set_option maxRecDepth 100000
open Go.RowKit
def sizE (key : ByteArray) (f : Nat → Int) (l : List A) : Nat := ((wrE 9223372036854775807 (some []) key f l).getD []).length
theorem sizE_le (key : ByteArray) (f : Nat → Int) (hr : ∀ j, j < 8 → -9223372036854775808 ≤ f j ∧ f j ≤ 9223372036854775807) (l : List V) (hv : ∀ v ∈ l, (-9223372036854775808 ≤ v.num ∧ v.num ≤ 9223372036854775807) ∧ v.data.length ≤ 140737488351232) (hk : key.size ≤ 140737488351232) (hl : l.length < 18446744073709551616) : sizE key f (cont l) ≤ 110 + key.size + vsum (cont l) := by
 unfold sizE wrE wrS
 have h1 := wrL_len 9223372036854775807 (putS 9223372036854775807 (wrV 9223372036854775807 (putS 9223372036854775807 (some []) (numB (keyL key).length ++ keyL key)) f 8) (numB (cont l).length)) (cont l) (fun y hy => by
  simp only [cont, List.mem_map] at hy
  obtain ⟨v, hv', rfl⟩ := hy
  have := hv v hv'
  exact ⟨this.1, by show v.data.length < _; omega⟩)
 have h2 := putS_len 9223372036854775807 (wrV 9223372036854775807 (putS 9223372036854775807 (some []) (numB (keyL key).length ++ keyL key)) f 8) (numB (cont l).length)
 have h3 := wrV_len 9223372036854775807 (putS 9223372036854775807 (some []) (numB (keyL key).length ++ keyL key)) f hr 8 (Nat.le_refl _)
 have h4 := putS_len 9223372036854775807 (some []) (numB (keyL key).length ++ keyL key)
 have h5 : (keyL key).length = key.size := keyL_len key
 have h6 := numB_ten (n := (keyL key).length) (by omega)
 have h7 := numB_ten (n := (cont l).length) (by rw [cont_len]; exact hl)
 rw [List.length_append] at h4
 have h8 : ((some ([] : List Nat)).getD []).length = 0 := rfl
 omega
set_option maxHeartbeats 1000000 in
theorem size_any (key : ByteArray) (hks : key.size ≤ 140737488351232) (f : Nat → Int) (hr : ∀ j, j < 8 → -9223372036854775808 ≤ f j ∧ f j ≤ 9223372036854775807) (a : Option Addr) (ca : Nat) (l : List V) (w : World) (hrow : Row w a ca l) (hB : 120 + key.size + vsum (cont l) ≤ 140737488355328) :
  Calls Try.prog 18 #[.agg #[.string key, .int .i64 (f 0), .int .i64 (f 1), .int .i64 (f 2), .int .i64 (f 3), .int .i64 (f 4), .int .i64 (f 5), .int .i64 (f 6), .int .i64 (f 7), .slice a l.length ca]] w fun e w' => e = .returned (.int .i64 (sizE key f (cont l) : Nat)) ∧ Off (fun _ => False) w w' := by
 have HLE : Hid _ := sizE_le key f hr l (fun v hv => ⟨⟨(hrow.ok v hv).m0, (hrow.ok v hv).m1⟩, (hrow.ok v hv).len⟩) hks (by have h1 := hrow.len; have h2 := hrow.bound; omega)
 have C := Cel.new w 40 #[.string key, .int .i64 (f 0), .int .i64 (f 1), .int .i64 (f 2), .int .i64 (f 3), .int .i64 (f 4), .int .i64 (f 5), .int .i64 (f 6), .int .i64 (f 7), .slice a l.length ca]
 have O : Off (fun _ => False) w (w.alloc (.cells #[.string key, .int .i64 (f 0), .int .i64 (f 1), .int .i64 (f 2), .int .i64 (f 3), .int .i64 (f 4), .int .i64 (f 5), .int .i64 (f 6), .int .i64 (f 7), .slice a l.length ca] 40)) := (Off.refl _ w).alloc _
 have HRW : Hid _ := hrow.off O
 clear hrow
 go_enter Try.func18, Try.ntmps18
 go_upto_region 1 with fail
 generalize w.heap.size = q at C ⊢
 generalize w.alloc (.cells #[.string key, .int .i64 (f 0), .int .i64 (f 1), .int .i64 (f 2), .int .i64 (f 3), .int .i64 (f 4), .int .i64 (f 5), .int .i64 (f 6), .int .i64 (f 7), .slice a l.length ca] 40) = W at C O HRW ⊢
 have HC : Hid _ := C
 have HO : Hid _ := O
 clear C O
 go_wp2_with fail
 refine (newWriter_any 9223372036854775807 (by omega) W).mono ?_
 rintro e w1 ⟨rfl, W1, o1⟩
 have em : Int.toNat 9223372036854775807 = 9223372036854775807 := rfl
 rw [em] at W1
 have hWb : W.heap.size < w1.heap.size := W1.lt _ rfl
 have HCX : Hid _ := HC.out.off o1 (fun h => h)
 have HOX : Hid _ := HO.out.trans o1 (fun _ _ h => h)
 have HRX : Hid (∀ w', Off (fun c => c = W.heap.size) w1 w' → Row w' a ca l) := fun w' o' => HRW.out.off (o1.trans o' (fun k hk e => by have e : k = W.heap.size := e; omega))
 have HWE : Hid _ := writeEntryB_any W1 key hks f hr a ca l (by show 0 + 120 + key.size + vsum (cont l) ≤ _; omega) HRX.out
 have HZ : Hid (W.heap.size ≤ W.heap.size) := Nat.le_refl _
 have HOW : Hid (∀ w', Off (fun c => c = W.heap.size) w1 w' → Off (fun _ => False) w w') := fun w' o' => HO.out.trans (o1.trans o' (fun k hk e => by have e : k = W.heap.size := e; exact absurd hk (by omega))) (fun _ _ h => h)
 obtain ⟨x0, x1, x2, x3, x4, x5, x6, x7, x8, x9⟩ := cel10 HCX.out
 generalize W.heap.size = p at *
 clear W1 o1 HC HO HRW HRX hWb
 go_wp2_with fail
 refine Calls.mono HWE.out ?_
 rintro e w2 ⟨rfl, D2, W2, o2, d2⟩
 have HLS : Hid (((wrE 9223372036854775807 (some []) key f (cont l)).getD []).length ≤ 140737488355328) := by have h1 : sizE key f (cont l) ≤ 110 + key.size + vsum (cont l) := HLE.out; unfold sizE at h1; show _ ≤ _; omega
 have HDN : Hid _ := done_any W2 HLS.out
 have HO2 : Hid _ := HOW.out w2 o2
 have HSZ : Hid (((wrE 9223372036854775807 (some []) key f (cont l)).getD []).length = sizE key f (cont l)) := rfl
 rw [HSZ.out] at HDN
 have hsz2 : sizE key f (cont l) ≤ 140737488355328 := HLS.out
 clear W2 o2 d2 x0 x1 x2 x3 x4 x5 x6 x7 x8 x9 HWE
 generalize hZ : sizE key f (cont l) = Z at HDN hsz2
 have HZE : Hid (sizE key f (cont l) = Z) := hZ
 clear hZ HSZ HLE
 go_wp2_with fail
 refine Calls.mono HDN.out ?_
 rintro e w3 ⟨t3, c3, rfl, own3, hat3, o3⟩
 have HO3 : Hid _ := HO2.out.trans o3 (fun _ _ h => h)
 clear own3 hat3 o3
 go_wp2_with fail
 go_ret
 exact ⟨by rw [HZE.out]; rfl, HO3.out⟩
end Go.Proofs.Ytpnnpdfmoldiiaa
