/- Items of several texts. -/
import Derived.Test.YtpnnpdfmoldiiaaQGSm
import Derived.Test.YtpnnpdfmoldiiaaQBks
import Derived.Test.YtpnnpdfmoldiiaaQGJoin
import Derived.Test.YtpnnpdfmoldiiaaQRefR
namespace Go.Proofs.Ytpnnpdfmoldiiaa
open Go.RowKit
set_option maxRecDepth 100000 in
set_option maxHeartbeats 4000000 in
theorem rjoin_any (q : Nat) (xs : List E) (k : ByteArray) (f : Nat → Int) (a : Option Addr) (ca : Nat) (l : List V) (w : World) (h : RTab q xs w) (hr : Row w a ca l) :
  Calls Try.prog 38 #[.pointer (some ⟨q, 0, none⟩), .agg #[.string k, .int .i64 (f 0), .int .i64 (f 1), .int .i64 (f 2), .int .i64 (f 3), .int .i64 (f 4), .int .i64 (f 5), .int .i64 (f 6), .int .i64 (f 7), .slice a l.length ca]] w fun e w' => ∃ (g : Nat → Int) (a' : Option Addr) (c' : Nat) (l' : List V) (sm : Bool) (er : Int) (xs' : List E), e = .returned (.tuple #[.agg #[.int .i64 (g 0), .int .i64 (g 1), .int .i64 (g 2), .int .i64 (g 3), .int .i64 (g 4), .int .i64 (g 5), .int .i64 (g 6), .int .i64 (g 7), .slice a' l'.length c'], .bool sm, .int .i64 er]) ∧ joinR (absE xs) k f (cont l) = ⟨absE xs', g, cont l', sm, er⟩ ∧ Row w' a' c' l' ∧ RTab q xs' w' ∧ Off (fun c => c = q) w w' := by
 obtain ⟨W, hW⟩ : ∃ W, W = ((w.alloc (.cells #[.string k, .int .i64 (f 0), .int .i64 (f 1), .int .i64 (f 2), .int .i64 (f 3), .int .i64 (f 4), .int .i64 (f 5), .int .i64 (f 6), .int .i64 (f 7), .slice a l.length ca] 40)).alloc (.cells #[.int .i64 (zer 0), .int .i64 (zer 1), .int .i64 (zer 2), .int .i64 (zer 3), .int .i64 (zer 4), .int .i64 (zer 5), .int .i64 (zer 6), .int .i64 (zer 7), .slice none 0 0] 38)) := ⟨_, rfl⟩
 have O : Off (fun _ => False) w W := by rw [hW]; exact ((Off.refl _ w).alloc _).alloc _
 have C0 : Cel w.heap.size 40 #[.string k, .int .i64 (f 0), .int .i64 (f 1), .int .i64 (f 2), .int .i64 (f 3), .int .i64 (f 4), .int .i64 (f 5), .int .i64 (f 6), .int .i64 (f 7), .slice a l.length ca] W := by rw [hW]; exact (Cel.new w _ _).alloc _
 have C1 : Cel (w.heap.size + 1) 38 #[.int .i64 (zer 0), .int .i64 (zer 1), .int .i64 (zer 2), .int .i64 (zer 3), .int .i64 (zer 4), .int .i64 (zer 5), .int .i64 (zer 6), .int .i64 (zer 7), .slice none 0 0] W := by rw [hW]; exact Cel.new1 w _ _ _
 have T0 := h.free O
 have R0 := hr.off O
 obtain ⟨x0, x1, x2, x3, x4, x5, x6, x7, x8, x9⟩ := cel10 C0
 have HT : Hid (RTab q xs w) := h
 have hfew := h.few
 have HTW : Hid _ := T0
 have HRW : Hid _ := R0
 have HA0 : Hid _ := C0
 have HA1 : Hid _ := C1
 have HO : Hid _ := O
 have HW : Hid _ := hW
 clear h hr T0 R0 C0 C1 O hW
 go_enter Try.func38, Try.ntmps38
 go_upto_region 1 with fail
 rw [show ((w.alloc (.cells #[.string k, .int .i64 (f 0), .int .i64 (f 1), .int .i64 (f 2), .int .i64 (f 3), .int .i64 (f 4), .int .i64 (f 5), .int .i64 (f 6), .int .i64 (f 7), .slice a l.length ca] 40)).alloc (.cells #[.int .i64 0, .int .i64 0, .int .i64 0, .int .i64 0, .int .i64 0, .int .i64 0, .int .i64 0, .int .i64 0, .slice none 0 0] 38)) = W from HW.out.symm]
 go_wp2_with fail
 refine (gmayentry_any k f a ca l _ HRW.out).mono ?_
 clear x0 x1 x2 x3 x4 x5 x6 x7 x8 x9
 cases hm : (keyB k && mayS f (cont l))
 ·rintro e V ⟨rfl, o1⟩
  have HD1 : Hid _ := HA1.out.off o1 (fun h => h)
  have HOV : Hid _ := HO.out.trans o1 (fun _ _ h => h)
  clear o1
  obtain ⟨z0, z1, z2, z3, z4, z5, z6, z7, z8⟩ := cel9 HD1.out
  have fr := HD1.out.free
  go_wp2_with fail
  refine bodyPost_ret (results_sibs3 rfl rfl rfl rfl (HD1.out.st9 zer (.slice none 0 0))) rfl ?_
  have OZ := HOV.out.st9 (b := w.heap.size + 1) (.inr (by omega)) zer (.slice none 0 0)
  exact ⟨zer, none, 0, [], false, 1, xs, rfl, joinR_arg hm, Row.nil _ none 0 (by omega), HT.out.free OZ, OZ.mono (fun _ _ h => h.elim)⟩
 ·rintro e w1 ⟨rfl, o1⟩
  have HM : Hid _ := hm
  have HT1 : Hid _ := HTW.out.free o1
  have HC0 : Hid _ := HA0.out.off o1 (fun h => h)
  have HO1 : Hid (Off (fun _ => False) W w1) := o1
  clear o1 hm
  obtain ⟨x0, x1, x2, x3, x4, x5, x6, x7, x8, x9⟩ := cel10 HC0.out
  go_wp2_with fail
  clear x0 x1 x2 x3 x4 x5 x6 x7 x8 x9
  refine (rat_any q xs k _ HT1.out).mono ?_
  rintro e w2 ⟨r, rfl, hr, o2⟩
  have HT2 : Hid _ := HT1.out.free o2
  have HR2 : Hid _ := (HRW.out.off HO1.out).off o2
  have HD0 : Hid _ := HC0.out.off o2 (fun h => h)
  have HD1 : Hid _ := (HA1.out.off HO1.out (fun h => h)).off o2 (fun h => h)
  have HO2 : Hid _ := (HO.out.trans HO1.out (fun _ _ h => h)).trans o2 (fun _ _ h => h)
  clear o2 HTW HRW HA0 HA1 HO HW HT1 HC0 HO1
  rcases hr with ⟨hf, rfl⟩ | ⟨n, x, rfl, hx, hk⟩
  ·obtain ⟨a0, cap0, h1, h2, h3⟩ := HT2.out.is
   have c0 : w2.cell? ⟨q, 0, none⟩ = some (.slice a0 xs.length cap0) := h1.cell 0
   have HE2 : Hid _ := h2
   have HZ : Hid _ := h3
   clear h1 h2 h3
   have HFK : Hid (fndG K.key k (absE xs) = none) := by show _ = none; rw [← abs_fnd, hf]; rfl
   have HNE : Hid (∀ x ∈ xs, x.key ≠ k) := (fnd_none E.key).1 hf
   clear hf
   by_cases hful : 256 ≤ xs.length
   ·have e1 : decide ((256 : Int) ≤ (xs.length : Int)) = true := decide_eq_true (by omega)
    have e2 : decide (256 ≤ xs.length) = true := decide_eq_true hful
    have HNF : Hid _ := hful
    clear hful
    obtain ⟨z0, z1, z2, z3, z4, z5, z6, z7, z8⟩ := cel9 HD1.out
    have fr := HD1.out.free
    go_wp2_with fail
    refine bodyPost_ret (results_sibs3 rfl rfl rfl rfl (HD1.out.st9 zer (.slice none 0 0))) rfl ?_
    have OZ := HO2.out.st9 (b := w.heap.size + 1) (.inr (by omega)) zer (.slice none 0 0)
    exact ⟨zer, none, 0, [], false, 11, xs, rfl, joinR_full HM.out HFK.out (by rw [absE_len]; exact HNF.out), Row.nil _ none 0 (by omega), HT.out.free OZ, OZ.mono (fun _ _ h => h.elim)⟩
   ·have e1 : decide ((256 : Int) ≤ (xs.length : Int)) = false := decide_eq_false (by omega)
    have e2 : decide (256 ≤ xs.length) = false := decide_eq_false hful
    have HNF : Hid _ := hful
    clear hful
    go_upto_region 7 with (at_builtin; refine wpList_appE rfl (.const (.slice none 0 0)) (.tmp 35) rfl none 0 [] rfl (OwnG.nil _ _ _ _) a0 cap0 xs rfl HE2.out HZ.out (by simp; omega) ?_; intro a4 c4 v4 ys hys own4 o4 at4; obtain rfl : xs = ys := hys.out.symm; have HOWN4 : Hid _ := own4; have HO4 : Hid (Off (fun _ => False) w2 v4) := o4.mono (fun _ _ h => by simp [blk] at h); have HAT4 : Hid (∀ c, blk a4 = some c → w2.heap.size ≤ c) := fun c hc => (by rcases at4 with e | e <;> (rw [e] at hc; simp [blk] at hc; try omega)); clear own4 o4 at4)
    clear c0 e1 e2
    have HD4 : Hid _ := HD0.out.off HO4.out (fun h => h)
    have HR4 : Hid _ := HR2.out.off HO4.out
    go_wp2_with fail
    go_loopw [9] (fun y wr => ∃ m : Nat, y = .int .i64 (m : Int) ∧ m ≤ xs.length ∧ (∀ i z, i < m → xs[i]? = some z → blt z.key k = true) ∧ Off (fun _ => False) v4 wr) (fun y _ => (xs.length - intOf y).toNat)
    case atStart => exact ⟨0, rfl, by omega, fun i z hi => by omega, Off.refl _ _⟩
    case round =>
     obtain ⟨m, rfl, hm, hup, oo⟩ := hrel
     have HP : Hid _ := oo
     have HUP : Hid _ := hup
     clear oo hup
     by_cases hlm : m < xs.length
     ·have i1 : decide ((m : Int) < (xs.length : Int)) = true := decide_eq_true (by omega)
      have i2 : decide (m < xs.length) = true := decide_eq_true hlm
      obtain ⟨x, hx⟩ : ∃ x, xs[m]? = some x := ⟨_, List.getElem?_eq_getElem hlm⟩
      obtain ⟨g4, eg4, kf⟩ := HOWN4.out.at_ ecs_len hx
      have HEG : Hid _ := eg4
      have HKF : Hid _ := kf
      have HX : Hid _ := hx
      clear kf hx
      cases hrr : blt x.key k
      ·have HHI : Hid (∀ i z, m ≤ i → xs[i]? = some z → blt k z.key = true) := up_all HT.out.sor HX.out (blt_no hrr (HNE.out x (List.mem_of_getElem? HX.out)))
       have HLS : Hid (Op.bytesLess x.key.toList k.toList = false) := by show _ = false; rw [less_kb]; exact hrr
       subst eg4
       go_upto_region 9 with fail
       refine wp_region_held_drew (S := fun w' => Off (fun _ => False) wr w') (by kernel_rfl) ((Off.refl _ wr).drew) (fun hS => ?_)
       refine take_at (i := 0) 39 (v := .int .i64 (m : Int)) rfl rfl (by kernel_rfl) (by kernel_rfl) (by kernel_rfl) (fun _ _ _ h => h) (Or.inl ⟨by rfl, fun w' hw' => by go_simp⟩) hS ?_
       simp only [Act.put, lsA, lsZ, lsS]
       refine take_at (i := 1) 40 (v := .slice (some ⟨g4, 0, none⟩) xs.length c4) rfl rfl (by kernel_rfl) (by kernel_rfl) (by kernel_rfl) (fun _ _ _ h => h) (Or.inl ⟨by rfl, fun w' hw' => by go_simp⟩) hS ?_
       simp only [Act.put, lsA, lsZ, lsS]
       refine take_at (i := 2) 41 (v := .int .i64 (xs.length : Int)) rfl rfl (by kernel_rfl) (by kernel_rfl) (by kernel_rfl) (fun _ _ _ h => h) (Or.inl ⟨by rfl, fun w' hw' => by go_simp⟩) hS ?_
       simp only [Act.put, lsA, lsZ, lsS]
       refine take_at (i := 3) 42 (v := .bool true) rfl rfl (by kernel_rfl) (by kernel_rfl) (by kernel_rfl) (fun _ _ _ h => h) (Or.inl ⟨by rfl, fun w' hw' => by go_simp⟩) hS ?_
       simp only [Act.put, lsA, lsZ, lsS]
       refine take_at (i := 4) 43 (v := .bool true) rfl rfl (by kernel_rfl) (by kernel_rfl) (by kernel_rfl) (fun _ _ _ h => h) (Or.inl ⟨by rfl, fun w' hw' => by go_simp⟩) hS ?_
       simp only [Act.put, lsA, lsZ, lsS]
       refine take_at (i := 5) 44 (v := .slice (some ⟨g4, 0, none⟩) xs.length c4) rfl rfl (by kernel_rfl) (by kernel_rfl) (by kernel_rfl) (fun _ _ _ h => h) (Or.inl ⟨by rfl, fun w' hw' => by go_simp⟩) hS ?_
       simp only [Act.put, lsA, lsZ, lsS]
       refine take_at (i := 6) 45 (v := .int .i64 (m : Int)) rfl rfl (by kernel_rfl) (by kernel_rfl) (by kernel_rfl) (fun _ _ _ h => h) (Or.inl ⟨by rfl, fun w' hw' => by go_simp⟩) hS ?_
       simp only [Act.put, lsA, lsZ, lsS]
       refine take_at (i := 7) 46 (v := .pointer (some ⟨g4, m * 10, none⟩)) rfl rfl (by kernel_rfl) (by kernel_rfl) (by kernel_rfl) (fun _ _ _ h => h) (Or.inl ⟨by rfl, fun w' hw' => exec_idx10 rfl (idx_row10 hlm c4 g4 w')⟩) hS ?_
       simp only [Act.put, lsA, lsZ, lsS]
       refine take_at (i := 8) 47 (v := .pointer (some ⟨g4, m * 10, none⟩)) rfl rfl (by kernel_rfl) (by kernel_rfl) (by kernel_rfl) (fun _ _ _ h => h) (Or.inl ⟨by rfl, fun w' hw' => by go_simp⟩) hS ?_
       simp only [Act.put, lsA, lsZ, lsS]
       refine take_at (i := 9) 48 (v := .string x.key) rfl rfl (by kernel_rfl) (by kernel_rfl) (by kernel_rfl) (fun _ _ _ h => h) (Or.inl ⟨by rfl, fun w' hw' => by have e := (cells_off10 (HP.out.trans hw' (fun _ _ h => h)) HKF.out) 0 _ rfl; rw [Nat.add_zero] at e; go_simp⟩) hS ?_
       simp only [Act.put, lsA, lsZ, lsS]
       refine take_at (i := 10) 49 (v := .pointer (some ⟨w.heap.size, 0, none⟩)) rfl rfl (by kernel_rfl) (by kernel_rfl) (by kernel_rfl) (fun _ _ _ h => h) (Or.inl ⟨by rfl, fun w' hw' => by go_simp⟩) hS ?_
       simp only [Act.put, lsA, lsZ, lsS]
       refine take_at (i := 11) 50 (v := .string k) rfl rfl (by kernel_rfl) (by kernel_rfl) (by kernel_rfl) (fun _ _ _ h => h) (Or.inl ⟨by rfl, fun w' hw' => by obtain ⟨x0, x1, x2, x3, x4, x5, x6, x7, x8, x9⟩ := cel10 (HD4.out.off (HP.out.trans hw' (fun _ _ h => h)) (fun h => h)); go_simp⟩) hS ?_
       simp only [Act.put, lsA, lsZ, lsS]
       refine take_at (i := 12) 51 (v := .bool false) rfl rfl (by kernel_rfl) (by kernel_rfl) (by kernel_rfl) (fun _ _ _ h => h) (Or.inl ⟨by rfl, fun w' hw' => exec_bin10 rfl (by go_simp) (lss_str HLS.out _ w')⟩) hS ?_
       simp only [Act.put, lsA, lsZ, lsS]
       refine take_at (i := 13) 52 (v := .bool false) rfl rfl (by kernel_rfl) (by kernel_rfl) (by kernel_rfl) (fun _ _ _ h => h) (Or.inl ⟨by rfl, fun w' hw' => by go_simp⟩) hS ?_
       simp only [Act.put, lsA, lsZ, lsS]
       refine wpAnyH_done (by kernel_rfl) ?_ _
       have HP1 : Hid _ := HP.out.trans hS (fun _ _ h => h)
       clear hS HP
       clear hrr HKF HX i1 i2 hlm HLS
       generalize hbb : (some ⟨g4, 0, none⟩ : Option Addr) = a4 at HOWN4 HAT4 ⊢
       clear HEG hbb
       have D4 := HD4.out.off HP1.out (fun h => h)
       obtain ⟨x0, x1, x2, x3, x4, x5, x6, x7, x8, x9⟩ := cel10 D4
       clear D4
       go_wp2_with fail
       clear x0 x1 x2 x3 x4 x5 x6 x7 x8 x9
       refine (gjoinN_any zer f none a 0 ca [] l _ (Row.nil _ none 0 (by omega)) (HR4.out.off HP1.out)).mono ?_
       rintro e v5 ⟨j, aj, cj, lj, rfl, hj, hlj, rj, o5, hn1, hn2⟩
       have HJ : Hid _ := hj
       have HLJ : Hid _ := hlj
       clear hj hlj
       go_upto_region 12 with fail
       have Cq10 := Cel.new v5 38 #[.int .i64 (j 0), .int .i64 (j 1), .int .i64 (j 2), .int .i64 (j 3), .int .i64 (j 4), .int .i64 (j 5), .int .i64 (j 6), .int .i64 (j 7), .slice aj lj.length cj]
       have OA : Off (fun _ => False) v5 (v5.alloc (.cells #[.int .i64 (j 0), .int .i64 (j 1), .int .i64 (j 2), .int .i64 (j 3), .int .i64 (j 4), .int .i64 (j 5), .int .i64 (j 6), .int .i64 (j 7), .slice aj lj.length cj] 38)) := (Off.refl _ v5).alloc _
       generalize hq : v5.heap.size = q10 at Cq10 ⊢
       have HQG : Hid (v5.heap.size ≤ q10) := by show _ ≤ _; omega
       generalize hv : v5.alloc (.cells #[.int .i64 (j 0), .int .i64 (j 1), .int .i64 (j 2), .int .i64 (j 3), .int .i64 (j 4), .int .i64 (j 5), .int .i64 (j 6), .int .i64 (j 7), .slice aj lj.length cj] 38) = V at Cq10 OA ⊢
       clear hq hv
       have O5 := (HP1.out.trans o5 (fun _ _ h => h)).trans OA (fun _ _ h => h)
       have HC10 : Hid _ := Cq10
       have HRJ : Hid _ := rj.off OA
       have HFJ : Hid (Far (w.heap.size + 2) aj lj) := ⟨fun c hc => by have h1 := hn1 c hc; have h2 := (HD1.out.off (HO4.out.trans HP1.out (fun _ _ h => h)) (fun h => h)).lt; omega, fun v hv c hc => by have h1 := hn2 v hv c hc; have h2 := (HD1.out.off (HO4.out.trans HP1.out (fun _ _ h => h)) (fun h => h)).lt; omega⟩
       have HOV : Hid _ := (HO2.out.trans HO4.out (fun _ _ h => h)).trans O5 (fun _ _ h => h)
       have OW4 := HO4.out.trans O5 (fun _ _ h => h)
       have HD0V : Hid _ := HD0.out.off OW4 (fun h => h)
       have HD1V : Hid _ := HD1.out.off OW4 (fun h => h)
       have HTV : Hid _ := HT2.out.free OW4
       have HNQ : Hid _ := HTV.out.noI
       have HQL : Hid _ := HTV.out.lt
       have HVS : Hid (w.heap.size + 1 < V.heap.size) := HD1V.out.lt
       have HQ1 : Hid (¬ w.heap.size + 1 = q) := fun e => by have := HT.out.lt; omega
       have HQ0 : Hid (¬ w.heap.size = q) := fun e => by have := HT.out.lt; omega
       have HQ10 : Hid (¬ q10 = q) := fun e => by have h1 := (HT2.out.free (HO4.out.trans HP1.out (fun _ _ h => h))).lt; have h2 := o5.size; have h3 := HQG.out; omega
       have ens := (HOWN4.out.off O5 (fun _ _ _ h => h)).ens (fun e he => HTV.out.row e he)
       have HZ4 : Hid _ := HOWN4.out.zero
       obtain ⟨hsh, hrt⟩ := ens.slh (k := m) hm
       obtain ⟨a2, hsl, hrd, hz2⟩ := ens.sll HZ4.out (k := m) hm
       obtain ⟨ys, hys⟩ : ∃ ys, ys = xs.take m ++ (⟨k, j, aj, cj, lj⟩ : E) :: xs.drop m := ⟨_, rfl⟩
       have HYS : Hid (ys = putG E.key ⟨k, j, aj, cj, lj⟩ xs) := by show _ = _; rw [hys]; exact ins_put E.key HT.out.sor hm HUP.out HHI.out
       have HE : Hid ((xs.take m ++ [(⟨k, j, aj, cj, lj⟩ : E)]) ++ xs.drop m = ys) := by show _ = _; rw [hys]; simp
       have hlt : (xs.take m).length ≤ 1000 := by simp; omega
       have hld : (xs.drop m).length ≤ 1000 := by simp; omega
       have HRT : Hid _ := hrt
       have HRD : Hid _ := hrd
       have HZ2 : Hid _ := hz2
       clear hrt hrd hz2 hys ens
       generalize hltt : xs.take m = lt at hsh HRT HE hlt
       generalize hldd : xs.drop m = ld at hsl HRD HE hld
       clear hltt hldd OA Cq10 rj O5 OW4 o5 hn1 hn2 HQG
       have HS0 : Hid (StS q V V) := ⟨Off.refl _ V, by obtain ⟨a, c, h1, -, -⟩ := HTV.out.is; exact ⟨a, _, c, h1⟩⟩
       refine wp_region_held_drew (S := fun w' => StS q V w') (by kernel_rfl) (HS0.out.free ((Off.refl _ V).drew) HQL.out) (fun hS => ?_)
       generalize hdr : V.drew = v2 at hS ⊢
       clear hdr
       refine take_at (i := 0) 59 (v := .pointer (some ⟨q, 0, none⟩)) rfl rfl (by kernel_rfl) (by kernel_rfl) (by kernel_rfl) (fun _ _ _ h => h) (Or.inl ⟨by rfl, fun w' hw' => by go_simp⟩) hS ?_
       simp only [Act.put, lsA, lsZ, lsS]
       refine take_at (i := 1) 60 (v := .slice a4 xs.length c4) rfl rfl (by kernel_rfl) (by kernel_rfl) (by kernel_rfl) (fun _ _ _ h => h) (Or.inl ⟨by rfl, fun w' hw' => by go_simp⟩) hS ?_
       simp only [Act.put, lsA, lsZ, lsS]
       refine take_at (i := 2) 61 (v := .int .i64 (m : Int)) rfl rfl (by kernel_rfl) (by kernel_rfl) (by kernel_rfl) (fun _ _ _ h => h) (Or.inl ⟨by rfl, fun w' hw' => by go_simp⟩) hS ?_
       simp only [Act.put, lsA, lsZ, lsS]
       refine take_at (i := 3) 62 (v := .slice a4 lt.length c4) rfl rfl (by kernel_rfl) (by kernel_rfl) (by kernel_rfl) (fun _ _ _ h => h) (Or.inl ⟨by rfl, fun w' hw' => by go_simp⟩) hS ?_
       simp only [Act.put, lsA, lsZ, lsS]
       refine take_at (i := 5) 64 (v := .pointer (some ⟨w.heap.size, 0, none⟩)) rfl rfl (by kernel_rfl) (by kernel_rfl) (by kernel_rfl) (fun _ _ _ h => h) (Or.inl ⟨by rfl, fun w' hw' => by go_simp⟩) hS ?_
       simp only [Act.put, lsA, lsZ, lsS]
       refine take_at (i := 6) 65 (v := .string k) rfl rfl (by kernel_rfl) (by kernel_rfl) (by kernel_rfl) (fun _ _ _ h => h) (Or.inl ⟨by rfl, fun w' hw' => by obtain ⟨x0, x1, x2, x3, x4, x5, x6, x7, x8, x9⟩ := cel10 (HD0V.out.off hw'.off HQ0.out); go_simp⟩) hS ?_
       simp only [Act.put, lsA, lsZ, lsS]
       refine take_at (i := 7) 66 (v := .agg #[.int .i64 (j 0), .int .i64 (j 1), .int .i64 (j 2), .int .i64 (j 3), .int .i64 (j 4), .int .i64 (j 5), .int .i64 (j 6), .int .i64 (j 7), .slice aj lj.length cj]) rfl rfl (by kernel_rfl) (by kernel_rfl) (by kernel_rfl) (fun _ _ _ h => h) (Or.inl ⟨by rfl, fun w' hw' => by obtain ⟨x0, x1, x2, x3, x4, x5, x6, x7, x8⟩ := cel9 (HC10.out.off hw'.off HQ10.out); go_simp⟩) hS ?_
       simp only [Act.put, lsA, lsZ, lsS]
       refine take_at (i := 8) 67 (v := .agg #[.string k, .int .i64 (j 0), .int .i64 (j 1), .int .i64 (j 2), .int .i64 (j 3), .int .i64 (j 4), .int .i64 (j 5), .int .i64 (j 6), .int .i64 (j 7), .slice aj lj.length cj]) rfl rfl (by kernel_rfl) (by kernel_rfl) (by kernel_rfl) (fun _ _ _ h => h) (Or.inl ⟨by rfl, fun w' hw' => by go_simp⟩) hS ?_
       simp only [Act.put, lsA, lsZ, lsS]
       refine take_at (i := 11) 70 (v := .slice a4 xs.length c4) rfl rfl (by kernel_rfl) (by kernel_rfl) (by kernel_rfl) (fun _ _ _ h => h) (Or.inl ⟨by rfl, fun w' hw' => by go_simp⟩) hS ?_
       simp only [Act.put, lsA, lsZ, lsS]
       refine take_at (i := 12) 71 (v := .int .i64 (m : Int)) rfl rfl (by kernel_rfl) (by kernel_rfl) (by kernel_rfl) (fun _ _ _ h => h) (Or.inl ⟨by rfl, fun w' hw' => by go_simp⟩) hS ?_
       simp only [Act.put, lsA, lsZ, lsS]
       refine take_at (i := 13) 72 (v := .slice a2 ld.length (c4 - m)) rfl rfl (by kernel_rfl) (by kernel_rfl) (by kernel_rfl) (fun _ _ _ h => h) (Or.inl ⟨by rfl, fun w' hw' => by go_simp⟩) hS ?_
       simp only [Act.put, lsA, lsZ, lsS]
       refine wpAnyH_ready (rs := [4, 9]) (by kernel_rfl) (by simp) ?_
       refine AllReadyH.cons rfl (fun K' hK' => ?_) (AllReadyH.cons rfl (fun K' hK' => ?_) AllReadyH.nil)
       ·obtain ⟨a3, c3, v3, hr, own3, o3, at3⟩ := app_runE (OwnG.nil _ _ _ v2) (HRT.out.offD hS.off HNQ.out) HZ4.out (by simp; omega) 22
        rw [List.nil_append] at hr own3
        replace o3 : Off (fun _ => False) v2 v3 := o3.mono (fun _ _ h => by simp [blk] at h)
        replace at3 : ∀ c, blk a3 = some c → V.heap.size ≤ c := fun c hc => by have := hS.off.size; rcases at3 with e | e <;> (rw [e] at hc; simp [blk] at hc; try omega)
        have hS3 := hS.free o3 HQL.out
        refine wp_append_if rfl (.const (.slice none 0 0)) (.tmp 62) rfl rfl rfl hr 63 rfl ?_
        simp only [Act.put, lsA, lsZ, lsS]
        refine hK'.out _ _ hS3 (fun hS => ?_)
        clear hK' K' hr
        refine wpAnyH_ready (rs := [9]) (by kernel_rfl) (by simp) ?_
        refine AllReadyH.cons rfl (fun K' hK' => ?_) AllReadyH.nil
        go_simp
        have CB := Cel.new v3 40 #[.string k, .int .i64 (j 0), .int .i64 (j 1), .int .i64 (j 2), .int .i64 (j 3), .int .i64 (j 4), .int .i64 (j 5), .int .i64 (j 6), .int .i64 (j 7), .slice aj lj.length cj]
        have OB : Off (fun _ => False) v3 (v3.alloc (.cells #[.string k, .int .i64 (j 0), .int .i64 (j 1), .int .i64 (j 2), .int .i64 (j 3), .int .i64 (j 4), .int .i64 (j 5), .int .i64 (j 6), .int .i64 (j 7), .slice aj lj.length cj] 40)) := (Off.refl _ v3).alloc _
        refine hK'.out _ _ (hS.free OB HQL.out) (fun hS => ?_)
        clear hK' K'
        generalize hq5 : v3.heap.size = q5 at CB ⊢
        generalize hv5 : v3.alloc (.cells #[.string k, .int .i64 (j 0), .int .i64 (j 1), .int .i64 (j 2), .int .i64 (j 3), .int .i64 (j 4), .int .i64 (j 5), .int .i64 (j 6), .int .i64 (j 7), .slice aj lj.length cj] 40) = v5b at CB OB hS ⊢
        clear hv5 hq5
        refine wpAnyH_ready (rs := [10]) (by kernel_rfl) (by simp) ?_
        refine AllReadyH.cons rfl (fun K' hK' => ?_) AllReadyH.nil
        have RB := cel_ens (v := ⟨k, j, aj, cj, lj⟩) CB (HRJ.out.offN hS.off HNQ.out)
        obtain ⟨a6, c6, v6, hr, own6, o6, at6⟩ := app_runE (own3.off OB (fun _ _ _ h => h)) RB (fun h => by simp at h) (by simp; omega) 22
        have hS6 := hS.step o6 at3 HQL.out
        replace at6 : ∀ c, blk a6 = some c → V.heap.size ≤ c := fun c hc => by
         have := hS.off.size
         rcases at6 with e | e
         ·exact at3 c (e ▸ hc)
         ·rw [e] at hc
          simp at hc
          omega
        refine wp_append_if rfl (.tmp 63) (.tmp 68) rfl rfl rfl hr 69 rfl ?_
        simp only [Act.put, lsA, lsZ, lsS]
        refine hK'.out _ _ hS6 (fun hS => ?_)
        clear hK' K' hr
        clear o6 RB
        refine wpAnyH_ready (rs := [14]) (by kernel_rfl) (by simp) ?_
        refine AllReadyH.cons rfl (fun K' hK' => ?_) AllReadyH.nil
        obtain ⟨a10, c10, v10, hr, own10, o10, at10⟩ := app_runE own6 (HRD.out.offD hS.off HNQ.out) HZ2.out (by simp; omega) 22
        have hS10 := hS.step o10 at6 HQL.out
        replace at10 : ∀ c, blk a10 = some c → V.heap.size ≤ c := fun c hc => by
         have := hS.off.size
         rcases at10 with e | e
         ·exact at6 c (e ▸ hc)
         ·rw [e] at hc
          simp at hc
          omega
        refine wp_append_if rfl (.tmp 69) (.tmp 72) rfl rfl rfl hr 73 rfl ?_
        simp only [Act.put, lsA, lsZ, lsS]
        refine hK'.out _ _ hS10 (fun hS => ?_)
        clear hK' K' hr
        clear o10
        have HOWN : Hid _ := own10
        have HAT : Hid _ := at10
        have HLL : Hid (((lt ++ [(⟨k, j, aj, cj, lj⟩ : E)]) ++ ld).length = ys.length) := by show _ = _; rw [HE.out]
        generalize hzz : ((lt ++ [(⟨k, j, aj, cj, lj⟩ : E)]) ++ ld).length = zz at HLL ⊢
        refine take_at (i := 15) 74 (v := .pointer (some ⟨q, 0, none⟩)) rfl rfl (by kernel_rfl) (by kernel_rfl) (by kernel_rfl) (fun _ _ _ h => h) (Or.inl ⟨by rfl, fun w' hw' => by go_simp⟩) hS ?_
        simp only [Act.put, lsA, lsZ, lsS]
        refine take_at (i := 16) 75 (v := .pointer (some ⟨q, 0, none⟩)) rfl rfl (by kernel_rfl) (by kernel_rfl) (by kernel_rfl) (fun _ _ _ h => h) (Or.inl ⟨by rfl, fun w' hw' => by go_simp⟩) hS ?_
        simp only [Act.put, lsA, lsZ, lsS]
        obtain ⟨b0, n0, k0, hc0⟩ := hS.cel
        have c0 := hc0.cell 0
        have fr := hc0.free
        simp only [List.getElem?_toArray, List.getElem?_cons_zero] at c0
        refine wpAnyH_ready (rs := [17]) (by kernel_rfl) (by simp) ?_
        refine AllReadyH.cons rfl (fun K' hK' => ?_) AllReadyH.nil
        go_simp
        refine hK'.out _ _ (hS.put a10 zz c10) (fun hS' => ?_)
        clear hK' K'
        have CQ := hc0.set 0 (.slice a10 zz c10)
        have OQ : Off (fun c => c = q) v10 (v10.setCell ⟨q, 0, none⟩ (.slice a10 zz c10)) := (Off.refl (fun c => c = q) v10).setCell (p := ⟨q, 0, none⟩) (.inl rfl) _
        generalize hv11 : v10.setCell ⟨q, 0, none⟩ (.slice a10 zz c10) = v11 at hS' CQ OQ ⊢
        clear hv11 hc0 c0 fr
        refine wpAnyH_done (by kernel_rfl) ?_ _
        have HCQ : Hid (Cel q 73 #[.slice a10 zz c10] v11) := CQ
        have HOQ : Hid _ := OQ
        have HSQ : Hid _ := hS'
        clear CQ OQ hS' hS hzz
        have C1 := HD1V.out.off HSQ.out.off HQ1.out
        have C10 := HC10.out.off HSQ.out.off HQ10.out
        obtain ⟨x0, x1, x2, x3, x4, x5, x6, x7, x8⟩ := cel9 C10
        obtain ⟨z0, z1, z2, z3, z4, z5, z6, z7, z8⟩ := cel9 C1
        have fr := C1.free
        have HC1F : Hid _ := C1
        clear C1 C10
        go_wp2_with fail
        refine bodyPost_ret (results_sibs3 rfl rfl rfl rfl (HC1F.out.st9 j (.slice aj lj.length cj))) rfl ?_
        have OZ := (HOV.out.mono (fun _ _ h => h.elim) |>.trans HSQ.out.off (fun _ _ h => h)).st9 (b := w.heap.size + 1) (.inr (by omega)) j (.slice aj lj.length cj)
        have OB := (Off.refl (fun x => x = w.heap.size + 1) v11).st9 (.inl rfl) j (.slice aj lj.length cj)
        have hq1 := HVS.out
        have RJ := ((HRJ.out.offN HSQ.out.off HNQ.out).offF HFJ.out OB (fun x hx e => by omega))
        have own := (HOWN.out.off HOQ.out (fun c _ hc e => by have := HAT.out c hc; have := HQL.out; omega)).off OB (fun c _ hc e => by have := HAT.out c hc; omega)
        rw [HE.out] at own
        have CF := HCQ.out.off OB (fun e => HQ1.out e.symm)
        rw [HLL.out] at CF
        refine ⟨j, aj, cj, lj, false, 0, ys, rfl, ?_, RJ, ⟨⟨a10, c10, CF, own.ens (fun e he => ?_), own.zero⟩, ?_, ?_⟩, OZ⟩
        ·rw [HYS.out, abs_put]
         show _ = (⟨putG K.key ⟨k, j, cont lj⟩ (absE xs), j, cont lj, false, 0⟩ : JR)
         rw [HLJ.out, HJ.out]
         exact joinR_new HM.out HFK.out (by rw [absE_len]; exact HNF.out)
        ·rw [HYS.out, mem_putG] at he
         rcases he with rfl | ⟨he, -⟩
         ·exact RJ
         ·exact (HT.out.row e he).offN OZ HT.out.noI
        ·rw [HYS.out]; exact sor_putG E.key HT.out.sor
        ·rw [HYS.out]; have h1 := put_len HT.out.sor (⟨k, j, aj, cj, lj⟩ : E); have := Nat.lt_of_not_le HNF.out; omega
       ·go_simp
        have CB := Cel.new v2 40 #[.string k, .int .i64 (j 0), .int .i64 (j 1), .int .i64 (j 2), .int .i64 (j 3), .int .i64 (j 4), .int .i64 (j 5), .int .i64 (j 6), .int .i64 (j 7), .slice aj lj.length cj]
        have OB : Off (fun _ => False) v2 (v2.alloc (.cells #[.string k, .int .i64 (j 0), .int .i64 (j 1), .int .i64 (j 2), .int .i64 (j 3), .int .i64 (j 4), .int .i64 (j 5), .int .i64 (j 6), .int .i64 (j 7), .slice aj lj.length cj] 40)) := (Off.refl _ v2).alloc _
        refine hK'.out _ _ (hS.free OB HQL.out) (fun hS => ?_)
        clear hK' K'
        generalize hq5 : v2.heap.size = q5 at CB ⊢
        generalize hv5 : v2.alloc (.cells #[.string k, .int .i64 (j 0), .int .i64 (j 1), .int .i64 (j 2), .int .i64 (j 3), .int .i64 (j 4), .int .i64 (j 5), .int .i64 (j 6), .int .i64 (j 7), .slice aj lj.length cj] 40) = v3 at CB OB hS ⊢
        clear hv5 hq5
        refine wpAnyH_ready (rs := [4]) (by kernel_rfl) (by simp) ?_
        refine AllReadyH.cons rfl (fun K' hK' => ?_) AllReadyH.nil
        obtain ⟨a3, c3, v5b, hr, own3, o3, at3⟩ := app_runE (OwnG.nil _ _ _ v3) (HRT.out.offD hS.off HNQ.out) HZ4.out (by simp; omega) 22
        rw [List.nil_append] at hr own3
        replace o3 : Off (fun _ => False) v3 v5b := o3.mono (fun _ _ h => by simp [blk] at h)
        replace at3 : ∀ c, blk a3 = some c → V.heap.size ≤ c := fun c hc => by have := hS.off.size; rcases at3 with e | e <;> (rw [e] at hc; simp [blk] at hc; try omega)
        have hS3 := hS.free o3 HQL.out
        refine wp_append_if rfl (.const (.slice none 0 0)) (.tmp 62) rfl rfl rfl hr 63 rfl ?_
        simp only [Act.put, lsA, lsZ, lsS]
        refine hK'.out _ _ hS3 (fun hS => ?_)
        clear hK' K' hr
        refine wpAnyH_ready (rs := [10]) (by kernel_rfl) (by simp) ?_
        refine AllReadyH.cons rfl (fun K' hK' => ?_) AllReadyH.nil
        have RB := cel_ens (v := ⟨k, j, aj, cj, lj⟩) (CB.off o3 (fun h => h)) (HRJ.out.offN hS.off HNQ.out)
        obtain ⟨a6, c6, v6, hr, own6, o6, at6⟩ := app_runE own3 RB (fun h => by simp at h) (by simp; omega) 22
        have hS6 := hS.step o6 at3 HQL.out
        replace at6 : ∀ c, blk a6 = some c → V.heap.size ≤ c := fun c hc => by
         have := hS.off.size
         rcases at6 with e | e
         ·exact at3 c (e ▸ hc)
         ·rw [e] at hc
          simp at hc
          omega
        refine wp_append_if rfl (.tmp 63) (.tmp 68) rfl rfl rfl hr 69 rfl ?_
        simp only [Act.put, lsA, lsZ, lsS]
        refine hK'.out _ _ hS6 (fun hS => ?_)
        clear hK' K' hr
        clear o6 RB
        refine wpAnyH_ready (rs := [14]) (by kernel_rfl) (by simp) ?_
        refine AllReadyH.cons rfl (fun K' hK' => ?_) AllReadyH.nil
        obtain ⟨a10, c10, v10, hr, own10, o10, at10⟩ := app_runE own6 (HRD.out.offD hS.off HNQ.out) HZ2.out (by simp; omega) 22
        have hS10 := hS.step o10 at6 HQL.out
        replace at10 : ∀ c, blk a10 = some c → V.heap.size ≤ c := fun c hc => by
         have := hS.off.size
         rcases at10 with e | e
         ·exact at6 c (e ▸ hc)
         ·rw [e] at hc
          simp at hc
          omega
        refine wp_append_if rfl (.tmp 69) (.tmp 72) rfl rfl rfl hr 73 rfl ?_
        simp only [Act.put, lsA, lsZ, lsS]
        refine hK'.out _ _ hS10 (fun hS => ?_)
        clear hK' K' hr
        clear o10
        have HOWN : Hid _ := own10
        have HAT : Hid _ := at10
        have HLL : Hid (((lt ++ [(⟨k, j, aj, cj, lj⟩ : E)]) ++ ld).length = ys.length) := by show _ = _; rw [HE.out]
        generalize hzz : ((lt ++ [(⟨k, j, aj, cj, lj⟩ : E)]) ++ ld).length = zz at HLL ⊢
        refine take_at (i := 15) 74 (v := .pointer (some ⟨q, 0, none⟩)) rfl rfl (by kernel_rfl) (by kernel_rfl) (by kernel_rfl) (fun _ _ _ h => h) (Or.inl ⟨by rfl, fun w' hw' => by go_simp⟩) hS ?_
        simp only [Act.put, lsA, lsZ, lsS]
        refine take_at (i := 16) 75 (v := .pointer (some ⟨q, 0, none⟩)) rfl rfl (by kernel_rfl) (by kernel_rfl) (by kernel_rfl) (fun _ _ _ h => h) (Or.inl ⟨by rfl, fun w' hw' => by go_simp⟩) hS ?_
        simp only [Act.put, lsA, lsZ, lsS]
        obtain ⟨b0, n0, k0, hc0⟩ := hS.cel
        have c0 := hc0.cell 0
        have fr := hc0.free
        simp only [List.getElem?_toArray, List.getElem?_cons_zero] at c0
        refine wpAnyH_ready (rs := [17]) (by kernel_rfl) (by simp) ?_
        refine AllReadyH.cons rfl (fun K' hK' => ?_) AllReadyH.nil
        go_simp
        refine hK'.out _ _ (hS.put a10 zz c10) (fun hS' => ?_)
        clear hK' K'
        have CQ := hc0.set 0 (.slice a10 zz c10)
        have OQ : Off (fun c => c = q) v10 (v10.setCell ⟨q, 0, none⟩ (.slice a10 zz c10)) := (Off.refl (fun c => c = q) v10).setCell (p := ⟨q, 0, none⟩) (.inl rfl) _
        generalize hv11 : v10.setCell ⟨q, 0, none⟩ (.slice a10 zz c10) = v11 at hS' CQ OQ ⊢
        clear hv11 hc0 c0 fr
        refine wpAnyH_done (by kernel_rfl) ?_ _
        have HCQ : Hid (Cel q 73 #[.slice a10 zz c10] v11) := CQ
        have HOQ : Hid _ := OQ
        have HSQ : Hid _ := hS'
        clear CQ OQ hS' hS hzz
        have C1 := HD1V.out.off HSQ.out.off HQ1.out
        have C10 := HC10.out.off HSQ.out.off HQ10.out
        obtain ⟨x0, x1, x2, x3, x4, x5, x6, x7, x8⟩ := cel9 C10
        obtain ⟨z0, z1, z2, z3, z4, z5, z6, z7, z8⟩ := cel9 C1
        have fr := C1.free
        have HC1F : Hid _ := C1
        clear C1 C10
        go_wp2_with fail
        refine bodyPost_ret (results_sibs3 rfl rfl rfl rfl (HC1F.out.st9 j (.slice aj lj.length cj))) rfl ?_
        have OZ := (HOV.out.mono (fun _ _ h => h.elim) |>.trans HSQ.out.off (fun _ _ h => h)).st9 (b := w.heap.size + 1) (.inr (by omega)) j (.slice aj lj.length cj)
        have OB := (Off.refl (fun x => x = w.heap.size + 1) v11).st9 (.inl rfl) j (.slice aj lj.length cj)
        have hq1 := HVS.out
        have RJ := ((HRJ.out.offN HSQ.out.off HNQ.out).offF HFJ.out OB (fun x hx e => by omega))
        have own := (HOWN.out.off HOQ.out (fun c _ hc e => by have := HAT.out c hc; have := HQL.out; omega)).off OB (fun c _ hc e => by have := HAT.out c hc; omega)
        rw [HE.out] at own
        have CF := HCQ.out.off OB (fun e => HQ1.out e.symm)
        rw [HLL.out] at CF
        refine ⟨j, aj, cj, lj, false, 0, ys, rfl, ?_, RJ, ⟨⟨a10, c10, CF, own.ens (fun e he => ?_), own.zero⟩, ?_, ?_⟩, OZ⟩
        ·rw [HYS.out, abs_put]
         show _ = (⟨putG K.key ⟨k, j, cont lj⟩ (absE xs), j, cont lj, false, 0⟩ : JR)
         rw [HLJ.out, HJ.out]
         exact joinR_new HM.out HFK.out (by rw [absE_len]; exact HNF.out)
        ·rw [HYS.out, mem_putG] at he
         rcases he with rfl | ⟨he, -⟩
         ·exact RJ
         ·exact (HT.out.row e he).offN OZ HT.out.noI
        ·rw [HYS.out]; exact sor_putG E.key HT.out.sor
        ·rw [HYS.out]; have h1 := put_len HT.out.sor (⟨k, j, aj, cj, lj⟩ : E); have := Nat.lt_of_not_le HNF.out; omega
      ·have HLS : Hid (Op.bytesLess x.key.toList k.toList = true) := by show _ = true; rw [less_kb]; exact hrr
       subst eg4
       go_upto_region 9 with fail
       refine wp_region_held_drew (S := fun w' => Off (fun _ => False) wr w') (by kernel_rfl) ((Off.refl _ wr).drew) (fun hS => ?_)
       refine take_at (i := 0) 39 (v := .int .i64 (m : Int)) rfl rfl (by kernel_rfl) (by kernel_rfl) (by kernel_rfl) (fun _ _ _ h => h) (Or.inl ⟨by rfl, fun w' hw' => by go_simp⟩) hS ?_
       simp only [Act.put, lsA, lsZ, lsS]
       refine take_at (i := 1) 40 (v := .slice (some ⟨g4, 0, none⟩) xs.length c4) rfl rfl (by kernel_rfl) (by kernel_rfl) (by kernel_rfl) (fun _ _ _ h => h) (Or.inl ⟨by rfl, fun w' hw' => by go_simp⟩) hS ?_
       simp only [Act.put, lsA, lsZ, lsS]
       refine take_at (i := 2) 41 (v := .int .i64 (xs.length : Int)) rfl rfl (by kernel_rfl) (by kernel_rfl) (by kernel_rfl) (fun _ _ _ h => h) (Or.inl ⟨by rfl, fun w' hw' => by go_simp⟩) hS ?_
       simp only [Act.put, lsA, lsZ, lsS]
       refine take_at (i := 3) 42 (v := .bool true) rfl rfl (by kernel_rfl) (by kernel_rfl) (by kernel_rfl) (fun _ _ _ h => h) (Or.inl ⟨by rfl, fun w' hw' => by go_simp⟩) hS ?_
       simp only [Act.put, lsA, lsZ, lsS]
       refine take_at (i := 4) 43 (v := .bool true) rfl rfl (by kernel_rfl) (by kernel_rfl) (by kernel_rfl) (fun _ _ _ h => h) (Or.inl ⟨by rfl, fun w' hw' => by go_simp⟩) hS ?_
       simp only [Act.put, lsA, lsZ, lsS]
       refine take_at (i := 5) 44 (v := .slice (some ⟨g4, 0, none⟩) xs.length c4) rfl rfl (by kernel_rfl) (by kernel_rfl) (by kernel_rfl) (fun _ _ _ h => h) (Or.inl ⟨by rfl, fun w' hw' => by go_simp⟩) hS ?_
       simp only [Act.put, lsA, lsZ, lsS]
       refine take_at (i := 6) 45 (v := .int .i64 (m : Int)) rfl rfl (by kernel_rfl) (by kernel_rfl) (by kernel_rfl) (fun _ _ _ h => h) (Or.inl ⟨by rfl, fun w' hw' => by go_simp⟩) hS ?_
       simp only [Act.put, lsA, lsZ, lsS]
       refine take_at (i := 7) 46 (v := .pointer (some ⟨g4, m * 10, none⟩)) rfl rfl (by kernel_rfl) (by kernel_rfl) (by kernel_rfl) (fun _ _ _ h => h) (Or.inl ⟨by rfl, fun w' hw' => exec_idx10 rfl (idx_row10 hlm c4 g4 w')⟩) hS ?_
       simp only [Act.put, lsA, lsZ, lsS]
       refine take_at (i := 8) 47 (v := .pointer (some ⟨g4, m * 10, none⟩)) rfl rfl (by kernel_rfl) (by kernel_rfl) (by kernel_rfl) (fun _ _ _ h => h) (Or.inl ⟨by rfl, fun w' hw' => by go_simp⟩) hS ?_
       simp only [Act.put, lsA, lsZ, lsS]
       refine take_at (i := 9) 48 (v := .string x.key) rfl rfl (by kernel_rfl) (by kernel_rfl) (by kernel_rfl) (fun _ _ _ h => h) (Or.inl ⟨by rfl, fun w' hw' => by have e := (cells_off10 (HP.out.trans hw' (fun _ _ h => h)) HKF.out) 0 _ rfl; rw [Nat.add_zero] at e; go_simp⟩) hS ?_
       simp only [Act.put, lsA, lsZ, lsS]
       refine take_at (i := 10) 49 (v := .pointer (some ⟨w.heap.size, 0, none⟩)) rfl rfl (by kernel_rfl) (by kernel_rfl) (by kernel_rfl) (fun _ _ _ h => h) (Or.inl ⟨by rfl, fun w' hw' => by go_simp⟩) hS ?_
       simp only [Act.put, lsA, lsZ, lsS]
       refine take_at (i := 11) 50 (v := .string k) rfl rfl (by kernel_rfl) (by kernel_rfl) (by kernel_rfl) (fun _ _ _ h => h) (Or.inl ⟨by rfl, fun w' hw' => by obtain ⟨x0, x1, x2, x3, x4, x5, x6, x7, x8, x9⟩ := cel10 (HD4.out.off (HP.out.trans hw' (fun _ _ h => h)) (fun h => h)); go_simp⟩) hS ?_
       simp only [Act.put, lsA, lsZ, lsS]
       refine take_at (i := 12) 51 (v := .bool true) rfl rfl (by kernel_rfl) (by kernel_rfl) (by kernel_rfl) (fun _ _ _ h => h) (Or.inl ⟨by rfl, fun w' hw' => exec_bin10 rfl (by go_simp) (lss_str HLS.out _ w')⟩) hS ?_
       simp only [Act.put, lsA, lsZ, lsS]
       refine take_at (i := 13) 52 (v := .bool true) rfl rfl (by kernel_rfl) (by kernel_rfl) (by kernel_rfl) (fun _ _ _ h => h) (Or.inl ⟨by rfl, fun w' hw' => by go_simp⟩) hS ?_
       simp only [Act.put, lsA, lsZ, lsS]
       refine wpAnyH_done (by kernel_rfl) ?_ _
       have HP1 : Hid _ := HP.out.trans hS (fun _ _ h => h)
       clear hS HP
       have HT9 : Hid (∀ i z, i < m + 1 → xs[i]? = some z → blt z.key k = true) := fun i z hi hz => by
        by_cases e : i = m
        ·subst e
         rw [HX.out] at hz
         cases hz
         exact hrr
        ·exact HUP.out i z (by omega) hz
       go_wp2_with fail
       go_roundw
       case rel => exact ⟨m + 1, by go_num, by omega, HT9.out, HP1.out⟩
       case measure => simp [intOf]; omega
     ·have i1 : decide ((m : Int) < (xs.length : Int)) = false := decide_eq_false (by omega)
      have i2 : decide (m < xs.length) = false := decide_eq_false hlm
      have HHI : Hid (∀ i z, m ≤ i → xs[i]? = some z → blt k z.key = true) := fun i z hi hz => by
       obtain ⟨h, -⟩ := List.getElem?_eq_some_iff.1 hz
       omega
      go_upto_region 9 with fail
      refine wp_region_held_drew (S := fun w' => w' = wr.drew) (by kernel_rfl) rfl (fun hS => ?_)
      refine take_at (i := 0) 39 (v := .int .i64 (m : Int)) rfl rfl (by kernel_rfl) (by kernel_rfl) (by kernel_rfl) (fun _ _ _ h => h) (Or.inl ⟨by rfl, fun w' hw' => by go_simp⟩) hS ?_
      simp only [Act.put, lsA, lsZ, lsS]
      refine take_at (i := 1) 40 (v := .slice a4 xs.length c4) rfl rfl (by kernel_rfl) (by kernel_rfl) (by kernel_rfl) (fun _ _ _ h => h) (Or.inl ⟨by rfl, fun w' hw' => by go_simp⟩) hS ?_
      simp only [Act.put, lsA, lsZ, lsS]
      refine take_at (i := 2) 41 (v := .int .i64 (xs.length : Int)) rfl rfl (by kernel_rfl) (by kernel_rfl) (by kernel_rfl) (fun _ _ _ h => h) (Or.inl ⟨by rfl, fun w' hw' => by go_simp⟩) hS ?_
      simp only [Act.put, lsA, lsZ, lsS]
      refine take_at (i := 3) 42 (v := .bool false) rfl rfl (by kernel_rfl) (by kernel_rfl) (by kernel_rfl) (fun _ _ _ h => h) (Or.inl ⟨by rfl, fun w' hw' => by go_simp⟩) hS ?_
      simp only [Act.put, lsA, lsZ, lsS]
      refine take_at (i := 4) 43 (v := .bool false) rfl rfl (by kernel_rfl) (by kernel_rfl) (by kernel_rfl) (fun _ _ _ h => h) (Or.inl ⟨by rfl, fun w' hw' => by go_simp⟩) hS ?_
      simp only [Act.put, lsA, lsZ, lsS]
      refine take_at (i := 5) 44 (v := undef) rfl rfl (by kernel_rfl) (by kernel_rfl) (by kernel_rfl) (fun _ _ _ h => h) (Or.inr ⟨by rfl, rfl⟩) hS ?_
      simp only [Act.put, lsA, lsZ, lsS]
      refine take_at (i := 6) 45 (v := undef) rfl rfl (by kernel_rfl) (by kernel_rfl) (by kernel_rfl) (fun _ _ _ h => h) (Or.inr ⟨by rfl, rfl⟩) hS ?_
      simp only [Act.put, lsA, lsZ, lsS]
      refine take_at (i := 7) 46 (v := undef) rfl rfl (by kernel_rfl) (by kernel_rfl) (by kernel_rfl) (fun _ _ _ h => h) (Or.inr ⟨by rfl, rfl⟩) hS ?_
      simp only [Act.put, lsA, lsZ, lsS]
      refine take_at (i := 8) 47 (v := undef) rfl rfl (by kernel_rfl) (by kernel_rfl) (by kernel_rfl) (fun _ _ _ h => h) (Or.inr ⟨by rfl, rfl⟩) hS ?_
      simp only [Act.put, lsA, lsZ, lsS]
      refine take_at (i := 9) 48 (v := undef) rfl rfl (by kernel_rfl) (by kernel_rfl) (by kernel_rfl) (fun _ _ _ h => h) (Or.inr ⟨by rfl, rfl⟩) hS ?_
      simp only [Act.put, lsA, lsZ, lsS]
      refine take_at (i := 10) 49 (v := undef) rfl rfl (by kernel_rfl) (by kernel_rfl) (by kernel_rfl) (fun _ _ _ h => h) (Or.inr ⟨by rfl, rfl⟩) hS ?_
      simp only [Act.put, lsA, lsZ, lsS]
      refine take_at (i := 11) 50 (v := undef) rfl rfl (by kernel_rfl) (by kernel_rfl) (by kernel_rfl) (fun _ _ _ h => h) (Or.inr ⟨by rfl, rfl⟩) hS ?_
      simp only [Act.put, lsA, lsZ, lsS]
      refine take_at (i := 12) 51 (v := undef) rfl rfl (by kernel_rfl) (by kernel_rfl) (by kernel_rfl) (fun _ _ _ h => h) (Or.inr ⟨by rfl, rfl⟩) hS ?_
      simp only [Act.put, lsA, lsZ, lsS]
      refine take_at (i := 13) 52 (v := .bool false) rfl rfl (by kernel_rfl) (by kernel_rfl) (by kernel_rfl) (fun _ _ _ h => h) (Or.inl ⟨by rfl, fun w' hw' => by go_simp⟩) hS ?_
      simp only [Act.put, lsA, lsZ, lsS]
      refine wpAnyH_done (by kernel_rfl) ?_ _
      have HP1 : Hid _ := HP.out.drew
      clear HP hS
      generalize hdr : wr.drew = v1 at HP1 ⊢
      clear hdr i1 i2 hlm
      have D4 := HD4.out.off HP1.out (fun h => h)
      obtain ⟨x0, x1, x2, x3, x4, x5, x6, x7, x8, x9⟩ := cel10 D4
      clear D4
      go_wp2_with fail
      clear x0 x1 x2 x3 x4 x5 x6 x7 x8 x9
      refine (gjoinN_any zer f none a 0 ca [] l _ (Row.nil _ none 0 (by omega)) (HR4.out.off HP1.out)).mono ?_
      rintro e v5 ⟨j, aj, cj, lj, rfl, hj, hlj, rj, o5, hn1, hn2⟩
      have HJ : Hid _ := hj
      have HLJ : Hid _ := hlj
      clear hj hlj
      go_upto_region 12 with fail
      have Cq10 := Cel.new v5 38 #[.int .i64 (j 0), .int .i64 (j 1), .int .i64 (j 2), .int .i64 (j 3), .int .i64 (j 4), .int .i64 (j 5), .int .i64 (j 6), .int .i64 (j 7), .slice aj lj.length cj]
      have OA : Off (fun _ => False) v5 (v5.alloc (.cells #[.int .i64 (j 0), .int .i64 (j 1), .int .i64 (j 2), .int .i64 (j 3), .int .i64 (j 4), .int .i64 (j 5), .int .i64 (j 6), .int .i64 (j 7), .slice aj lj.length cj] 38)) := (Off.refl _ v5).alloc _
      generalize hq : v5.heap.size = q10 at Cq10 ⊢
      have HQG : Hid (v5.heap.size ≤ q10) := by show _ ≤ _; omega
      generalize hv : v5.alloc (.cells #[.int .i64 (j 0), .int .i64 (j 1), .int .i64 (j 2), .int .i64 (j 3), .int .i64 (j 4), .int .i64 (j 5), .int .i64 (j 6), .int .i64 (j 7), .slice aj lj.length cj] 38) = V at Cq10 OA ⊢
      clear hq hv
      have O5 := (HP1.out.trans o5 (fun _ _ h => h)).trans OA (fun _ _ h => h)
      have HC10 : Hid _ := Cq10
      have HRJ : Hid _ := rj.off OA
      have HFJ : Hid (Far (w.heap.size + 2) aj lj) := ⟨fun c hc => by have h1 := hn1 c hc; have h2 := (HD1.out.off (HO4.out.trans HP1.out (fun _ _ h => h)) (fun h => h)).lt; omega, fun v hv c hc => by have h1 := hn2 v hv c hc; have h2 := (HD1.out.off (HO4.out.trans HP1.out (fun _ _ h => h)) (fun h => h)).lt; omega⟩
      have HOV : Hid _ := (HO2.out.trans HO4.out (fun _ _ h => h)).trans O5 (fun _ _ h => h)
      have OW4 := HO4.out.trans O5 (fun _ _ h => h)
      have HD0V : Hid _ := HD0.out.off OW4 (fun h => h)
      have HD1V : Hid _ := HD1.out.off OW4 (fun h => h)
      have HTV : Hid _ := HT2.out.free OW4
      have HNQ : Hid _ := HTV.out.noI
      have HQL : Hid _ := HTV.out.lt
      have HVS : Hid (w.heap.size + 1 < V.heap.size) := HD1V.out.lt
      have HQ1 : Hid (¬ w.heap.size + 1 = q) := fun e => by have := HT.out.lt; omega
      have HQ0 : Hid (¬ w.heap.size = q) := fun e => by have := HT.out.lt; omega
      have HQ10 : Hid (¬ q10 = q) := fun e => by have h1 := (HT2.out.free (HO4.out.trans HP1.out (fun _ _ h => h))).lt; have h2 := o5.size; have h3 := HQG.out; omega
      have ens := (HOWN4.out.off O5 (fun _ _ _ h => h)).ens (fun e he => HTV.out.row e he)
      have HZ4 : Hid _ := HOWN4.out.zero
      obtain ⟨hsh, hrt⟩ := ens.slh (k := m) hm
      obtain ⟨a2, hsl, hrd, hz2⟩ := ens.sll HZ4.out (k := m) hm
      obtain ⟨ys, hys⟩ : ∃ ys, ys = xs.take m ++ (⟨k, j, aj, cj, lj⟩ : E) :: xs.drop m := ⟨_, rfl⟩
      have HYS : Hid (ys = putG E.key ⟨k, j, aj, cj, lj⟩ xs) := by show _ = _; rw [hys]; exact ins_put E.key HT.out.sor hm HUP.out HHI.out
      have HE : Hid ((xs.take m ++ [(⟨k, j, aj, cj, lj⟩ : E)]) ++ xs.drop m = ys) := by show _ = _; rw [hys]; simp
      have hlt : (xs.take m).length ≤ 1000 := by simp; omega
      have hld : (xs.drop m).length ≤ 1000 := by simp; omega
      have HRT : Hid _ := hrt
      have HRD : Hid _ := hrd
      have HZ2 : Hid _ := hz2
      clear hrt hrd hz2 hys ens
      generalize hltt : xs.take m = lt at hsh HRT HE hlt
      generalize hldd : xs.drop m = ld at hsl HRD HE hld
      clear hltt hldd OA Cq10 rj O5 OW4 o5 hn1 hn2 HQG
      have HS0 : Hid (StS q V V) := ⟨Off.refl _ V, by obtain ⟨a, c, h1, -, -⟩ := HTV.out.is; exact ⟨a, _, c, h1⟩⟩
      refine wp_region_held_drew (S := fun w' => StS q V w') (by kernel_rfl) (HS0.out.free ((Off.refl _ V).drew) HQL.out) (fun hS => ?_)
      generalize hdr : V.drew = v2 at hS ⊢
      clear hdr
      refine take_at (i := 0) 59 (v := .pointer (some ⟨q, 0, none⟩)) rfl rfl (by kernel_rfl) (by kernel_rfl) (by kernel_rfl) (fun _ _ _ h => h) (Or.inl ⟨by rfl, fun w' hw' => by go_simp⟩) hS ?_
      simp only [Act.put, lsA, lsZ, lsS]
      refine take_at (i := 1) 60 (v := .slice a4 xs.length c4) rfl rfl (by kernel_rfl) (by kernel_rfl) (by kernel_rfl) (fun _ _ _ h => h) (Or.inl ⟨by rfl, fun w' hw' => by go_simp⟩) hS ?_
      simp only [Act.put, lsA, lsZ, lsS]
      refine take_at (i := 2) 61 (v := .int .i64 (m : Int)) rfl rfl (by kernel_rfl) (by kernel_rfl) (by kernel_rfl) (fun _ _ _ h => h) (Or.inl ⟨by rfl, fun w' hw' => by go_simp⟩) hS ?_
      simp only [Act.put, lsA, lsZ, lsS]
      refine take_at (i := 3) 62 (v := .slice a4 lt.length c4) rfl rfl (by kernel_rfl) (by kernel_rfl) (by kernel_rfl) (fun _ _ _ h => h) (Or.inl ⟨by rfl, fun w' hw' => by go_simp⟩) hS ?_
      simp only [Act.put, lsA, lsZ, lsS]
      refine take_at (i := 5) 64 (v := .pointer (some ⟨w.heap.size, 0, none⟩)) rfl rfl (by kernel_rfl) (by kernel_rfl) (by kernel_rfl) (fun _ _ _ h => h) (Or.inl ⟨by rfl, fun w' hw' => by go_simp⟩) hS ?_
      simp only [Act.put, lsA, lsZ, lsS]
      refine take_at (i := 6) 65 (v := .string k) rfl rfl (by kernel_rfl) (by kernel_rfl) (by kernel_rfl) (fun _ _ _ h => h) (Or.inl ⟨by rfl, fun w' hw' => by obtain ⟨x0, x1, x2, x3, x4, x5, x6, x7, x8, x9⟩ := cel10 (HD0V.out.off hw'.off HQ0.out); go_simp⟩) hS ?_
      simp only [Act.put, lsA, lsZ, lsS]
      refine take_at (i := 7) 66 (v := .agg #[.int .i64 (j 0), .int .i64 (j 1), .int .i64 (j 2), .int .i64 (j 3), .int .i64 (j 4), .int .i64 (j 5), .int .i64 (j 6), .int .i64 (j 7), .slice aj lj.length cj]) rfl rfl (by kernel_rfl) (by kernel_rfl) (by kernel_rfl) (fun _ _ _ h => h) (Or.inl ⟨by rfl, fun w' hw' => by obtain ⟨x0, x1, x2, x3, x4, x5, x6, x7, x8⟩ := cel9 (HC10.out.off hw'.off HQ10.out); go_simp⟩) hS ?_
      simp only [Act.put, lsA, lsZ, lsS]
      refine take_at (i := 8) 67 (v := .agg #[.string k, .int .i64 (j 0), .int .i64 (j 1), .int .i64 (j 2), .int .i64 (j 3), .int .i64 (j 4), .int .i64 (j 5), .int .i64 (j 6), .int .i64 (j 7), .slice aj lj.length cj]) rfl rfl (by kernel_rfl) (by kernel_rfl) (by kernel_rfl) (fun _ _ _ h => h) (Or.inl ⟨by rfl, fun w' hw' => by go_simp⟩) hS ?_
      simp only [Act.put, lsA, lsZ, lsS]
      refine take_at (i := 11) 70 (v := .slice a4 xs.length c4) rfl rfl (by kernel_rfl) (by kernel_rfl) (by kernel_rfl) (fun _ _ _ h => h) (Or.inl ⟨by rfl, fun w' hw' => by go_simp⟩) hS ?_
      simp only [Act.put, lsA, lsZ, lsS]
      refine take_at (i := 12) 71 (v := .int .i64 (m : Int)) rfl rfl (by kernel_rfl) (by kernel_rfl) (by kernel_rfl) (fun _ _ _ h => h) (Or.inl ⟨by rfl, fun w' hw' => by go_simp⟩) hS ?_
      simp only [Act.put, lsA, lsZ, lsS]
      refine take_at (i := 13) 72 (v := .slice a2 ld.length (c4 - m)) rfl rfl (by kernel_rfl) (by kernel_rfl) (by kernel_rfl) (fun _ _ _ h => h) (Or.inl ⟨by rfl, fun w' hw' => by go_simp⟩) hS ?_
      simp only [Act.put, lsA, lsZ, lsS]
      refine wpAnyH_ready (rs := [4, 9]) (by kernel_rfl) (by simp) ?_
      refine AllReadyH.cons rfl (fun K' hK' => ?_) (AllReadyH.cons rfl (fun K' hK' => ?_) AllReadyH.nil)
      ·obtain ⟨a3, c3, v3, hr, own3, o3, at3⟩ := app_runE (OwnG.nil _ _ _ v2) (HRT.out.offD hS.off HNQ.out) HZ4.out (by simp; omega) 22
       rw [List.nil_append] at hr own3
       replace o3 : Off (fun _ => False) v2 v3 := o3.mono (fun _ _ h => by simp [blk] at h)
       replace at3 : ∀ c, blk a3 = some c → V.heap.size ≤ c := fun c hc => by have := hS.off.size; rcases at3 with e | e <;> (rw [e] at hc; simp [blk] at hc; try omega)
       have hS3 := hS.free o3 HQL.out
       refine wp_append_if rfl (.const (.slice none 0 0)) (.tmp 62) rfl rfl rfl hr 63 rfl ?_
       simp only [Act.put, lsA, lsZ, lsS]
       refine hK'.out _ _ hS3 (fun hS => ?_)
       clear hK' K' hr
       refine wpAnyH_ready (rs := [9]) (by kernel_rfl) (by simp) ?_
       refine AllReadyH.cons rfl (fun K' hK' => ?_) AllReadyH.nil
       go_simp
       have CB := Cel.new v3 40 #[.string k, .int .i64 (j 0), .int .i64 (j 1), .int .i64 (j 2), .int .i64 (j 3), .int .i64 (j 4), .int .i64 (j 5), .int .i64 (j 6), .int .i64 (j 7), .slice aj lj.length cj]
       have OB : Off (fun _ => False) v3 (v3.alloc (.cells #[.string k, .int .i64 (j 0), .int .i64 (j 1), .int .i64 (j 2), .int .i64 (j 3), .int .i64 (j 4), .int .i64 (j 5), .int .i64 (j 6), .int .i64 (j 7), .slice aj lj.length cj] 40)) := (Off.refl _ v3).alloc _
       refine hK'.out _ _ (hS.free OB HQL.out) (fun hS => ?_)
       clear hK' K'
       generalize hq5 : v3.heap.size = q5 at CB ⊢
       generalize hv5 : v3.alloc (.cells #[.string k, .int .i64 (j 0), .int .i64 (j 1), .int .i64 (j 2), .int .i64 (j 3), .int .i64 (j 4), .int .i64 (j 5), .int .i64 (j 6), .int .i64 (j 7), .slice aj lj.length cj] 40) = v5b at CB OB hS ⊢
       clear hv5 hq5
       refine wpAnyH_ready (rs := [10]) (by kernel_rfl) (by simp) ?_
       refine AllReadyH.cons rfl (fun K' hK' => ?_) AllReadyH.nil
       have RB := cel_ens (v := ⟨k, j, aj, cj, lj⟩) CB (HRJ.out.offN hS.off HNQ.out)
       obtain ⟨a6, c6, v6, hr, own6, o6, at6⟩ := app_runE (own3.off OB (fun _ _ _ h => h)) RB (fun h => by simp at h) (by simp; omega) 22
       have hS6 := hS.step o6 at3 HQL.out
       replace at6 : ∀ c, blk a6 = some c → V.heap.size ≤ c := fun c hc => by
        have := hS.off.size
        rcases at6 with e | e
        ·exact at3 c (e ▸ hc)
        ·rw [e] at hc
         simp at hc
         omega
       refine wp_append_if rfl (.tmp 63) (.tmp 68) rfl rfl rfl hr 69 rfl ?_
       simp only [Act.put, lsA, lsZ, lsS]
       refine hK'.out _ _ hS6 (fun hS => ?_)
       clear hK' K' hr
       clear o6 RB
       refine wpAnyH_ready (rs := [14]) (by kernel_rfl) (by simp) ?_
       refine AllReadyH.cons rfl (fun K' hK' => ?_) AllReadyH.nil
       obtain ⟨a10, c10, v10, hr, own10, o10, at10⟩ := app_runE own6 (HRD.out.offD hS.off HNQ.out) HZ2.out (by simp; omega) 22
       have hS10 := hS.step o10 at6 HQL.out
       replace at10 : ∀ c, blk a10 = some c → V.heap.size ≤ c := fun c hc => by
        have := hS.off.size
        rcases at10 with e | e
        ·exact at6 c (e ▸ hc)
        ·rw [e] at hc
         simp at hc
         omega
       refine wp_append_if rfl (.tmp 69) (.tmp 72) rfl rfl rfl hr 73 rfl ?_
       simp only [Act.put, lsA, lsZ, lsS]
       refine hK'.out _ _ hS10 (fun hS => ?_)
       clear hK' K' hr
       clear o10
       have HOWN : Hid _ := own10
       have HAT : Hid _ := at10
       have HLL : Hid (((lt ++ [(⟨k, j, aj, cj, lj⟩ : E)]) ++ ld).length = ys.length) := by show _ = _; rw [HE.out]
       generalize hzz : ((lt ++ [(⟨k, j, aj, cj, lj⟩ : E)]) ++ ld).length = zz at HLL ⊢
       refine take_at (i := 15) 74 (v := .pointer (some ⟨q, 0, none⟩)) rfl rfl (by kernel_rfl) (by kernel_rfl) (by kernel_rfl) (fun _ _ _ h => h) (Or.inl ⟨by rfl, fun w' hw' => by go_simp⟩) hS ?_
       simp only [Act.put, lsA, lsZ, lsS]
       refine take_at (i := 16) 75 (v := .pointer (some ⟨q, 0, none⟩)) rfl rfl (by kernel_rfl) (by kernel_rfl) (by kernel_rfl) (fun _ _ _ h => h) (Or.inl ⟨by rfl, fun w' hw' => by go_simp⟩) hS ?_
       simp only [Act.put, lsA, lsZ, lsS]
       obtain ⟨b0, n0, k0, hc0⟩ := hS.cel
       have c0 := hc0.cell 0
       have fr := hc0.free
       simp only [List.getElem?_toArray, List.getElem?_cons_zero] at c0
       refine wpAnyH_ready (rs := [17]) (by kernel_rfl) (by simp) ?_
       refine AllReadyH.cons rfl (fun K' hK' => ?_) AllReadyH.nil
       go_simp
       refine hK'.out _ _ (hS.put a10 zz c10) (fun hS' => ?_)
       clear hK' K'
       have CQ := hc0.set 0 (.slice a10 zz c10)
       have OQ : Off (fun c => c = q) v10 (v10.setCell ⟨q, 0, none⟩ (.slice a10 zz c10)) := (Off.refl (fun c => c = q) v10).setCell (p := ⟨q, 0, none⟩) (.inl rfl) _
       generalize hv11 : v10.setCell ⟨q, 0, none⟩ (.slice a10 zz c10) = v11 at hS' CQ OQ ⊢
       clear hv11 hc0 c0 fr
       refine wpAnyH_done (by kernel_rfl) ?_ _
       have HCQ : Hid (Cel q 73 #[.slice a10 zz c10] v11) := CQ
       have HOQ : Hid _ := OQ
       have HSQ : Hid _ := hS'
       clear CQ OQ hS' hS hzz
       have C1 := HD1V.out.off HSQ.out.off HQ1.out
       have C10 := HC10.out.off HSQ.out.off HQ10.out
       obtain ⟨x0, x1, x2, x3, x4, x5, x6, x7, x8⟩ := cel9 C10
       obtain ⟨z0, z1, z2, z3, z4, z5, z6, z7, z8⟩ := cel9 C1
       have fr := C1.free
       have HC1F : Hid _ := C1
       clear C1 C10
       go_wp2_with fail
       refine bodyPost_ret (results_sibs3 rfl rfl rfl rfl (HC1F.out.st9 j (.slice aj lj.length cj))) rfl ?_
       have OZ := (HOV.out.mono (fun _ _ h => h.elim) |>.trans HSQ.out.off (fun _ _ h => h)).st9 (b := w.heap.size + 1) (.inr (by omega)) j (.slice aj lj.length cj)
       have OB := (Off.refl (fun x => x = w.heap.size + 1) v11).st9 (.inl rfl) j (.slice aj lj.length cj)
       have hq1 := HVS.out
       have RJ := ((HRJ.out.offN HSQ.out.off HNQ.out).offF HFJ.out OB (fun x hx e => by omega))
       have own := (HOWN.out.off HOQ.out (fun c _ hc e => by have := HAT.out c hc; have := HQL.out; omega)).off OB (fun c _ hc e => by have := HAT.out c hc; omega)
       rw [HE.out] at own
       have CF := HCQ.out.off OB (fun e => HQ1.out e.symm)
       rw [HLL.out] at CF
       refine ⟨j, aj, cj, lj, false, 0, ys, rfl, ?_, RJ, ⟨⟨a10, c10, CF, own.ens (fun e he => ?_), own.zero⟩, ?_, ?_⟩, OZ⟩
       ·rw [HYS.out, abs_put]
        show _ = (⟨putG K.key ⟨k, j, cont lj⟩ (absE xs), j, cont lj, false, 0⟩ : JR)
        rw [HLJ.out, HJ.out]
        exact joinR_new HM.out HFK.out (by rw [absE_len]; exact HNF.out)
       ·rw [HYS.out, mem_putG] at he
        rcases he with rfl | ⟨he, -⟩
        ·exact RJ
        ·exact (HT.out.row e he).offN OZ HT.out.noI
       ·rw [HYS.out]; exact sor_putG E.key HT.out.sor
       ·rw [HYS.out]; have h1 := put_len HT.out.sor (⟨k, j, aj, cj, lj⟩ : E); have := Nat.lt_of_not_le HNF.out; omega
      ·go_simp
       have CB := Cel.new v2 40 #[.string k, .int .i64 (j 0), .int .i64 (j 1), .int .i64 (j 2), .int .i64 (j 3), .int .i64 (j 4), .int .i64 (j 5), .int .i64 (j 6), .int .i64 (j 7), .slice aj lj.length cj]
       have OB : Off (fun _ => False) v2 (v2.alloc (.cells #[.string k, .int .i64 (j 0), .int .i64 (j 1), .int .i64 (j 2), .int .i64 (j 3), .int .i64 (j 4), .int .i64 (j 5), .int .i64 (j 6), .int .i64 (j 7), .slice aj lj.length cj] 40)) := (Off.refl _ v2).alloc _
       refine hK'.out _ _ (hS.free OB HQL.out) (fun hS => ?_)
       clear hK' K'
       generalize hq5 : v2.heap.size = q5 at CB ⊢
       generalize hv5 : v2.alloc (.cells #[.string k, .int .i64 (j 0), .int .i64 (j 1), .int .i64 (j 2), .int .i64 (j 3), .int .i64 (j 4), .int .i64 (j 5), .int .i64 (j 6), .int .i64 (j 7), .slice aj lj.length cj] 40) = v3 at CB OB hS ⊢
       clear hv5 hq5
       refine wpAnyH_ready (rs := [4]) (by kernel_rfl) (by simp) ?_
       refine AllReadyH.cons rfl (fun K' hK' => ?_) AllReadyH.nil
       obtain ⟨a3, c3, v5b, hr, own3, o3, at3⟩ := app_runE (OwnG.nil _ _ _ v3) (HRT.out.offD hS.off HNQ.out) HZ4.out (by simp; omega) 22
       rw [List.nil_append] at hr own3
       replace o3 : Off (fun _ => False) v3 v5b := o3.mono (fun _ _ h => by simp [blk] at h)
       replace at3 : ∀ c, blk a3 = some c → V.heap.size ≤ c := fun c hc => by have := hS.off.size; rcases at3 with e | e <;> (rw [e] at hc; simp [blk] at hc; try omega)
       have hS3 := hS.free o3 HQL.out
       refine wp_append_if rfl (.const (.slice none 0 0)) (.tmp 62) rfl rfl rfl hr 63 rfl ?_
       simp only [Act.put, lsA, lsZ, lsS]
       refine hK'.out _ _ hS3 (fun hS => ?_)
       clear hK' K' hr
       refine wpAnyH_ready (rs := [10]) (by kernel_rfl) (by simp) ?_
       refine AllReadyH.cons rfl (fun K' hK' => ?_) AllReadyH.nil
       have RB := cel_ens (v := ⟨k, j, aj, cj, lj⟩) (CB.off o3 (fun h => h)) (HRJ.out.offN hS.off HNQ.out)
       obtain ⟨a6, c6, v6, hr, own6, o6, at6⟩ := app_runE own3 RB (fun h => by simp at h) (by simp; omega) 22
       have hS6 := hS.step o6 at3 HQL.out
       replace at6 : ∀ c, blk a6 = some c → V.heap.size ≤ c := fun c hc => by
        have := hS.off.size
        rcases at6 with e | e
        ·exact at3 c (e ▸ hc)
        ·rw [e] at hc
         simp at hc
         omega
       refine wp_append_if rfl (.tmp 63) (.tmp 68) rfl rfl rfl hr 69 rfl ?_
       simp only [Act.put, lsA, lsZ, lsS]
       refine hK'.out _ _ hS6 (fun hS => ?_)
       clear hK' K' hr
       clear o6 RB
       refine wpAnyH_ready (rs := [14]) (by kernel_rfl) (by simp) ?_
       refine AllReadyH.cons rfl (fun K' hK' => ?_) AllReadyH.nil
       obtain ⟨a10, c10, v10, hr, own10, o10, at10⟩ := app_runE own6 (HRD.out.offD hS.off HNQ.out) HZ2.out (by simp; omega) 22
       have hS10 := hS.step o10 at6 HQL.out
       replace at10 : ∀ c, blk a10 = some c → V.heap.size ≤ c := fun c hc => by
        have := hS.off.size
        rcases at10 with e | e
        ·exact at6 c (e ▸ hc)
        ·rw [e] at hc
         simp at hc
         omega
       refine wp_append_if rfl (.tmp 69) (.tmp 72) rfl rfl rfl hr 73 rfl ?_
       simp only [Act.put, lsA, lsZ, lsS]
       refine hK'.out _ _ hS10 (fun hS => ?_)
       clear hK' K' hr
       clear o10
       have HOWN : Hid _ := own10
       have HAT : Hid _ := at10
       have HLL : Hid (((lt ++ [(⟨k, j, aj, cj, lj⟩ : E)]) ++ ld).length = ys.length) := by show _ = _; rw [HE.out]
       generalize hzz : ((lt ++ [(⟨k, j, aj, cj, lj⟩ : E)]) ++ ld).length = zz at HLL ⊢
       refine take_at (i := 15) 74 (v := .pointer (some ⟨q, 0, none⟩)) rfl rfl (by kernel_rfl) (by kernel_rfl) (by kernel_rfl) (fun _ _ _ h => h) (Or.inl ⟨by rfl, fun w' hw' => by go_simp⟩) hS ?_
       simp only [Act.put, lsA, lsZ, lsS]
       refine take_at (i := 16) 75 (v := .pointer (some ⟨q, 0, none⟩)) rfl rfl (by kernel_rfl) (by kernel_rfl) (by kernel_rfl) (fun _ _ _ h => h) (Or.inl ⟨by rfl, fun w' hw' => by go_simp⟩) hS ?_
       simp only [Act.put, lsA, lsZ, lsS]
       obtain ⟨b0, n0, k0, hc0⟩ := hS.cel
       have c0 := hc0.cell 0
       have fr := hc0.free
       simp only [List.getElem?_toArray, List.getElem?_cons_zero] at c0
       refine wpAnyH_ready (rs := [17]) (by kernel_rfl) (by simp) ?_
       refine AllReadyH.cons rfl (fun K' hK' => ?_) AllReadyH.nil
       go_simp
       refine hK'.out _ _ (hS.put a10 zz c10) (fun hS' => ?_)
       clear hK' K'
       have CQ := hc0.set 0 (.slice a10 zz c10)
       have OQ : Off (fun c => c = q) v10 (v10.setCell ⟨q, 0, none⟩ (.slice a10 zz c10)) := (Off.refl (fun c => c = q) v10).setCell (p := ⟨q, 0, none⟩) (.inl rfl) _
       generalize hv11 : v10.setCell ⟨q, 0, none⟩ (.slice a10 zz c10) = v11 at hS' CQ OQ ⊢
       clear hv11 hc0 c0 fr
       refine wpAnyH_done (by kernel_rfl) ?_ _
       have HCQ : Hid (Cel q 73 #[.slice a10 zz c10] v11) := CQ
       have HOQ : Hid _ := OQ
       have HSQ : Hid _ := hS'
       clear CQ OQ hS' hS hzz
       have C1 := HD1V.out.off HSQ.out.off HQ1.out
       have C10 := HC10.out.off HSQ.out.off HQ10.out
       obtain ⟨x0, x1, x2, x3, x4, x5, x6, x7, x8⟩ := cel9 C10
       obtain ⟨z0, z1, z2, z3, z4, z5, z6, z7, z8⟩ := cel9 C1
       have fr := C1.free
       have HC1F : Hid _ := C1
       clear C1 C10
       go_wp2_with fail
       refine bodyPost_ret (results_sibs3 rfl rfl rfl rfl (HC1F.out.st9 j (.slice aj lj.length cj))) rfl ?_
       have OZ := (HOV.out.mono (fun _ _ h => h.elim) |>.trans HSQ.out.off (fun _ _ h => h)).st9 (b := w.heap.size + 1) (.inr (by omega)) j (.slice aj lj.length cj)
       have OB := (Off.refl (fun x => x = w.heap.size + 1) v11).st9 (.inl rfl) j (.slice aj lj.length cj)
       have hq1 := HVS.out
       have RJ := ((HRJ.out.offN HSQ.out.off HNQ.out).offF HFJ.out OB (fun x hx e => by omega))
       have own := (HOWN.out.off HOQ.out (fun c _ hc e => by have := HAT.out c hc; have := HQL.out; omega)).off OB (fun c _ hc e => by have := HAT.out c hc; omega)
       rw [HE.out] at own
       have CF := HCQ.out.off OB (fun e => HQ1.out e.symm)
       rw [HLL.out] at CF
       refine ⟨j, aj, cj, lj, false, 0, ys, rfl, ?_, RJ, ⟨⟨a10, c10, CF, own.ens (fun e he => ?_), own.zero⟩, ?_, ?_⟩, OZ⟩
       ·rw [HYS.out, abs_put]
        show _ = (⟨putG K.key ⟨k, j, cont lj⟩ (absE xs), j, cont lj, false, 0⟩ : JR)
        rw [HLJ.out, HJ.out]
        exact joinR_new HM.out HFK.out (by rw [absE_len]; exact HNF.out)
       ·rw [HYS.out, mem_putG] at he
        rcases he with rfl | ⟨he, -⟩
        ·exact RJ
        ·exact (HT.out.row e he).offN OZ HT.out.noI
       ·rw [HYS.out]; exact sor_putG E.key HT.out.sor
       ·rw [HYS.out]; have h1 := put_len HT.out.sor (⟨k, j, aj, cj, lj⟩ : E); have := Nat.lt_of_not_le HNF.out; omega
  ·have ef : Hid (fndG K.key k (absE xs) = some x.abs) := by show _ = _; rw [← abs_fnd, at_fnd HT.out.sor hx hk]; rfl
   have HKK : Hid _ := hk
   have hlt : n < xs.length := by
    obtain ⟨h, -⟩ := List.getElem?_eq_some_iff.1 hx
    exact h
   have d1 : decide ((n : Int) < 0) = false := decide_eq_false (by omega)
   obtain ⟨a0, cap0, h1, h2, h3⟩ := HT2.out.is
   have c0 : w2.cell? ⟨q, 0, none⟩ = some (.slice a0 xs.length cap0) := h1.cell 0
   have HE2 : Hid _ := h2
   have HZ : Hid _ := h3
   clear h1 h2 h3 hk
   go_upto_region 7 with (at_builtin; refine wpList_appE rfl (.const (.slice none 0 0)) (.tmp 35) rfl none 0 [] rfl (OwnG.nil _ _ _ _) a0 cap0 xs rfl HE2.out HZ.out (by simp; omega) ?_; intro a4 c4 v4 ys hys own4 o4 at4; obtain rfl : xs = ys := hys.out.symm; have HOWN4 : Hid _ := own4; have HO4 : Hid (Off (fun _ => False) w2 v4) := o4.mono (fun _ _ h => by simp [blk] at h); have HAT4 : Hid (∀ c, blk a4 = some c → w2.heap.size ≤ c) := fun c hc => (by rcases at4 with e | e <;> (rw [e] at hc; simp [blk] at hc; try omega)); clear own4 o4 at4)
   clear c0
   obtain ⟨g4, rfl, kf4⟩ := HOWN4.out.at_ ecs_len hx
   have HKF : Hid _ := kf4
   clear kf4
   have HG2 : Hid (w2.heap.size ≤ g4) := HAT4.out g4 rfl
   have HG4 : Hid (g4 < v4.heap.size) := HOWN4.out.lt g4 rfl
   have HR4 : Hid _ := HR2.out.off HO4.out
   have HD4 : Hid _ := HD0.out.off HO4.out (fun h => h)
   have HRX : Hid _ := (HT2.out.row x (List.mem_of_getElem? hx)).off HO4.out
   go_upto_region 14 with fail
   refine wp_region_held_drew (S := fun w' => Off (fun _ => False) v4 w') (by kernel_rfl) ((Off.refl _ v4).drew) (fun hS => ?_)
   generalize hdr : v4.drew = vd at hS ⊢
   clear hdr
   refine take_at (i := 0) 77 (v := .slice (some ⟨g4, 0, none⟩) xs.length c4) rfl rfl (by kernel_rfl) (by kernel_rfl) (by kernel_rfl) (fun _ _ _ h => h) (Or.inl ⟨by rfl, fun w' hw' => by go_simp⟩) hS ?_
   simp only [Act.put, lsA, lsZ, lsS]
   refine take_at (i := 1) 78 (v := .int .i64 (n : Int)) rfl rfl (by kernel_rfl) (by kernel_rfl) (by kernel_rfl) (fun _ _ _ h => h) (Or.inl ⟨by rfl, fun w' hw' => by go_simp⟩) hS ?_
   simp only [Act.put, lsA, lsZ, lsS]
   refine take_at (i := 2) 79 (v := .pointer (some ⟨g4, n * 10, none⟩)) rfl rfl (by kernel_rfl) (by kernel_rfl) (by kernel_rfl) (fun _ _ _ h => h) (Or.inl ⟨by rfl, fun w' hw' => exec_idx10 rfl (idx_row10 hlt c4 g4 w')⟩) hS ?_
   simp only [Act.put, lsA, lsZ, lsS]
   refine take_at (i := 3) 80 (v := .pointer (some ⟨g4, n * 10 + 1, none⟩)) rfl rfl (by kernel_rfl) (by kernel_rfl) (by kernel_rfl) (fun _ _ _ h => h) (Or.inl ⟨by rfl, fun w' hw' => by go_simp⟩) hS ?_
   simp only [Act.put, lsA, lsZ, lsS]
   refine take_at (i := 4) 81 (v := .agg #[.int .i64 (x.f 0), .int .i64 (x.f 1), .int .i64 (x.f 2), .int .i64 (x.f 3), .int .i64 (x.f 4), .int .i64 (x.f 5), .int .i64 (x.f 6), .int .i64 (x.f 7), .slice x.a x.l.length x.cap]) rfl rfl (by kernel_rfl) (by kernel_rfl) (by kernel_rfl) (fun _ _ _ h => h) (Or.inl ⟨by rfl, fun w' hw' => by obtain ⟨k0, k1, k2, k3, k4, k5, k6, k7, k8, k9⟩ := ent10 (cells_off10 hw' HKF.out); go_simp⟩) hS ?_
   simp only [Act.put, lsA, lsZ, lsS]
   refine take_at (i := 5) 82 (v := .pointer (some ⟨w.heap.size, 1, none⟩)) rfl rfl (by kernel_rfl) (by kernel_rfl) (by kernel_rfl) (fun _ _ _ h => h) (Or.inl ⟨by rfl, fun w' hw' => by go_simp⟩) hS ?_
   simp only [Act.put, lsA, lsZ, lsS]
   refine take_at (i := 6) 83 (v := .agg #[.int .i64 (f 0), .int .i64 (f 1), .int .i64 (f 2), .int .i64 (f 3), .int .i64 (f 4), .int .i64 (f 5), .int .i64 (f 6), .int .i64 (f 7), .slice a l.length ca]) rfl rfl (by kernel_rfl) (by kernel_rfl) (by kernel_rfl) (fun _ _ _ h => h) (Or.inl ⟨by rfl, fun w' hw' => by obtain ⟨x0, x1, x2, x3, x4, x5, x6, x7, x8, x9⟩ := cel10 (HD4.out.off hw' (fun h => h)); go_simp⟩) hS ?_
   simp only [Act.put, lsA, lsZ, lsS]
   refine wpAnyH_ready (rs := [7, 8]) (by kernel_rfl) (by simp) ?_
   refine AllReadyH.cons rfl (fun K' hK' => ?_) (AllReadyH.cons rfl (fun K' hK' => ?_) AllReadyH.nil)
   ·go_simp
    refine (gjoinN_any x.f f x.a a x.cap ca x.l l _ (HRX.out.off hS) (HR4.out.off hS)).mono ?_
    rintro e v7 ⟨j, aj, cj, lj, rfl, hj, hlj, rj, o7, hn1, hn2⟩
    have HJ : Hid _ := hj
    have HLJ : Hid _ := hlj
    have hsz := hS.size
    have HFJ : Hid (Far v4.heap.size aj lj) := ⟨fun c hc => by have := hn1 c hc; omega, fun v hv c hc => by have := hn2 v hv c hc; omega⟩
    have hS7 := hS.trans o7 (fun _ _ h => h)
    refine hK'.out _ _ hS7 (fun hS => ?_)
    clear hK' K' hS7 hj hlj hn1 hn2 hsz
    refine wpAnyH_ready (rs := [8]) (by kernel_rfl) (by simp) ?_
    refine AllReadyH.cons rfl (fun K' hK' => ?_) AllReadyH.nil
    have HSZ := hS.size
    have hlt7 : ∀ c, blk aj = some c → True := fun _ _ => trivial
    clear hlt7
    go_simp
    refine hK'.out _ _ (hS.alloc _) (fun hS => ?_)
    clear hK' K'
    have DQ : Cel v7.heap.size 38 #[.int .i64 (zer 0), .int .i64 (zer 1), .int .i64 (zer 2), .int .i64 (zer 3), .int .i64 (zer 4), .int .i64 (zer 5), .int .i64 (zer 6), .int .i64 (zer 7), .slice none 0 0] (v7.alloc (.cells #[.int .i64 0, .int .i64 0, .int .i64 0, .int .i64 0, .int .i64 0, .int .i64 0, .int .i64 0, .int .i64 0, .slice none 0 0] 38)) := Cel.new v7 _ _
    have OV0 : Off (fun _ => False) v7 (v7.alloc (.cells #[.int .i64 0, .int .i64 0, .int .i64 0, .int .i64 0, .int .i64 0, .int .i64 0, .int .i64 0, .int .i64 0, .slice none 0 0] 38)) := (Off.refl _ v7).alloc _
    have hq7 : v4.heap.size ≤ v7.heap.size ∧ v7.heap.size < (v7.alloc (.cells #[.int .i64 0, .int .i64 0, .int .i64 0, .int .i64 0, .int .i64 0, .int .i64 0, .int .i64 0, .int .i64 0, .slice none 0 0] 38)).heap.size := ⟨HSZ, by simp [World.size_alloc]⟩
    generalize hV0 : (v7.alloc (.cells #[.int .i64 0, .int .i64 0, .int .i64 0, .int .i64 0, .int .i64 0, .int .i64 0, .int .i64 0, .int .i64 0, .slice none 0 0] 38)) = V8 at DQ hS hq7 OV0 ⊢
    generalize hQ : v7.heap.size = q11 at DQ hq7 ⊢
    have HQ5 : Hid (v7.heap.size ≤ q11) := by show _ ≤ _; omega
    have HQ6 : Hid (v4.heap.size ≤ q11) := hq7.1
    have HQ7 : Hid (q11 < V8.heap.size) := hq7.2
    clear hV0 hQ hq7
    obtain ⟨x0, x1, x2, x3, x4, x5, x6, x7, x8⟩ := cel9 DQ
    have fz := DQ.free
    refine wpAnyH_ready (rs := [9]) (by kernel_rfl) (by simp) ?_
    refine AllReadyH.cons rfl (fun K' hK' => ?_) AllReadyH.nil
    go_simp
    have hS5 := hS.st9 (b := q11) (.inr HQ6.out) j (.slice aj lj.length cj)
    refine hK'.out _ _ hS5 (fun hS => ?_)
    clear hK' K' hS5
    have ZQ := DQ.st9 j (.slice aj lj.length cj)
    have OS : Off (fun c => c = q11) V8 (((((((((V8.setCell ⟨q11, 0, none⟩ (.int .i64 (j 0))).setCell ⟨q11, 1, none⟩ (.int .i64 (j 1))).setCell ⟨q11, 2, none⟩ (.int .i64 (j 2))).setCell ⟨q11, 3, none⟩ (.int .i64 (j 3))).setCell ⟨q11, 4, none⟩ (.int .i64 (j 4))).setCell ⟨q11, 5, none⟩ (.int .i64 (j 5))).setCell ⟨q11, 6, none⟩ (.int .i64 (j 6))).setCell ⟨q11, 7, none⟩ (.int .i64 (j 7))).setCell ⟨q11, 8, none⟩ (.slice aj lj.length cj)) := (Off.refl (fun c => c = q11) V8).st9 (.inl rfl) j (.slice aj lj.length cj)
    clear DQ fz x0 x1 x2 x3 x4 x5 x6 x7 x8
    generalize hV : (((((((((V8.setCell ⟨q11, 0, none⟩ (.int .i64 (j 0))).setCell ⟨q11, 1, none⟩ (.int .i64 (j 1))).setCell ⟨q11, 2, none⟩ (.int .i64 (j 2))).setCell ⟨q11, 3, none⟩ (.int .i64 (j 3))).setCell ⟨q11, 4, none⟩ (.int .i64 (j 4))).setCell ⟨q11, 5, none⟩ (.int .i64 (j 5))).setCell ⟨q11, 6, none⟩ (.int .i64 (j 6))).setCell ⟨q11, 7, none⟩ (.int .i64 (j 7))).setCell ⟨q11, 8, none⟩ (.slice aj lj.length cj)) = V9 at ZQ hS OS ⊢
    clear hV
    refine wpAnyH_done (by kernel_rfl) ?_ _
    have HRJ : Hid (Row V9 aj cj lj) := rj.off ((OV0.mono (E := fun c => c = q11) (fun _ _ h => h.elim)).trans OS (fun _ _ h => h) |>.mono (fun i hi e => by have := HQ5.out; omega))
    clear rj o7 OV0
    have HS9 : Hid _ := hS
    have HC11 : Hid _ := ZQ
    clear hS ZQ OS
    go_upto_region 15 with fail
    refine wp_region_held_drew (S := fun w' => Off (fun _ => False) V9 w') (by kernel_rfl) ((Off.refl _ V9).drew) (fun hS => ?_)
    refine take_at (i := 0) 85 (v := .agg #[.int .i64 (j 0), .int .i64 (j 1), .int .i64 (j 2), .int .i64 (j 3), .int .i64 (j 4), .int .i64 (j 5), .int .i64 (j 6), .int .i64 (j 7), .slice aj lj.length cj]) rfl rfl (by kernel_rfl) (by kernel_rfl) (by kernel_rfl) (fun _ _ _ h => h) (Or.inl ⟨by rfl, fun w' hw' => by obtain ⟨x0, x1, x2, x3, x4, x5, x6, x7, x8⟩ := cel9 (HC11.out.off hw' (fun h => h)); go_simp⟩) hS ?_
    simp only [Act.put, lsA, lsZ, lsS]
    refine take_at (i := 1) 86 (v := .slice (some ⟨g4, 0, none⟩) xs.length c4) rfl rfl (by kernel_rfl) (by kernel_rfl) (by kernel_rfl) (fun _ _ _ h => h) (Or.inl ⟨by rfl, fun w' hw' => by go_simp⟩) hS ?_
    simp only [Act.put, lsA, lsZ, lsS]
    refine take_at (i := 2) 87 (v := .int .i64 (n : Int)) rfl rfl (by kernel_rfl) (by kernel_rfl) (by kernel_rfl) (fun _ _ _ h => h) (Or.inl ⟨by rfl, fun w' hw' => by go_simp⟩) hS ?_
    simp only [Act.put, lsA, lsZ, lsS]
    refine take_at (i := 3) 88 (v := .pointer (some ⟨g4, n * 10, none⟩)) rfl rfl (by kernel_rfl) (by kernel_rfl) (by kernel_rfl) (fun _ _ _ h => h) (Or.inl ⟨by rfl, fun w' hw' => exec_idx10 rfl (idx_row10 hlt c4 g4 w')⟩) hS ?_
    simp only [Act.put, lsA, lsZ, lsS]
    refine take_at (i := 4) 89 (v := .pointer (some ⟨g4, n * 10 + 1, none⟩)) rfl rfl (by kernel_rfl) (by kernel_rfl) (by kernel_rfl) (fun _ _ _ h => h) (Or.inl ⟨by rfl, fun w' hw' => by go_simp⟩) hS ?_
    simp only [Act.put, lsA, lsZ, lsS]
    refine take_at (i := 5) 90 (v := .agg #[.int .i64 (x.f 0), .int .i64 (x.f 1), .int .i64 (x.f 2), .int .i64 (x.f 3), .int .i64 (x.f 4), .int .i64 (x.f 5), .int .i64 (x.f 6), .int .i64 (x.f 7), .slice x.a x.l.length x.cap]) rfl rfl (by kernel_rfl) (by kernel_rfl) (by kernel_rfl) (fun _ _ _ h => h) (Or.inl ⟨by rfl, fun w' hw' => by obtain ⟨k0, k1, k2, k3, k4, k5, k6, k7, k8, k9⟩ := ent10 (cells_off10 (HS9.out.trans hw' (fun _ _ h => h)) HKF.out); go_simp⟩) hS ?_
    simp only [Act.put, lsA, lsZ, lsS]
    refine wpAnyH_ready (rs := [6]) (by kernel_rfl) (by simp) ?_
    refine AllReadyH.cons rfl (fun K' hK' => ?_) AllReadyH.nil
    go_simp
    refine (gsame_any j x.f aj x.a cj x.cap lj x.l _ (HRJ.out.off hS) (HRX.out.off (HS9.out.trans hS (fun _ _ h => h)))).mono ?_
    rintro e v10 ⟨rfl, o10⟩
    have hS1 := hS.trans o10 (fun _ _ h => h)
    refine hK'.out _ _ hS1 (fun hS => ?_)
    clear hK' K' hS1 o10
    generalize hsm : sameS j x.f (cont lj) (cont x.l) = sm
    have HSM : Hid _ := hsm
    clear hsm
    refine take_at (i := 7) 12 (v := .bool sm) rfl rfl (by kernel_rfl) (by kernel_rfl) (by kernel_rfl) (fun _ _ _ h => h) (Or.inl ⟨by rfl, fun w' hw' => by go_simp⟩) hS ?_
    simp only [Act.put, lsA, lsZ, lsS]
    refine wpAnyH_done (by kernel_rfl) ?_ _
    have HS10 : Hid _ := HS9.out.trans hS (fun _ _ h => h)
    have H11 : Hid _ := HC11.out.off hS (fun h => h)
    have HRJ10 : Hid _ := HRJ.out.off hS
    clear hS HC11
    have HOWN5 : Hid _ := HOWN4.out.off HS10.out (fun _ _ _ h => h)
    obtain ⟨cur, hcur⟩ : ∃ cur, Cel g4 40 cur v10 := own_cel HOWN5.out hx
    have kf5 := cells_off10 HS10.out HKF.out
    obtain ⟨k0, k1, k2, k3, k4, k5, k6, k7, k8, k9⟩ := ent10 kf5
    have fr := hcur.free
    obtain ⟨x0, x1, x2, x3, x4, x5, x6, x7, x8⟩ := cel9 H11.out
    have hix4 := idx_row10 hlt c4 g4
    clear kf5
    go_upto_region 17 with fail
    clear k0 k1 k2 k3 k4 k5 k6 k7 k8 k9 fr hcur cur x0 x1 x2 x3 x4 x5 x6 x7 x8 hix4
    obtain ⟨V, hV⟩ : ∃ V, V = wrs g4 (n * 10 + 1) (sib9 j (.slice aj lj.length cj)) v10 := ⟨_, rfl⟩
    rw [show (((((((((v10.setCell ⟨g4, n * 10 + 1, none⟩ (.int .i64 (j 0))).setCell ⟨g4, n * 10 + 1 + 1, none⟩ (.int .i64 (j 1))).setCell ⟨g4, n * 10 + 1 + 2, none⟩ (.int .i64 (j 2))).setCell ⟨g4, n * 10 + 1 + 3, none⟩ (.int .i64 (j 3))).setCell ⟨g4, n * 10 + 1 + 4, none⟩ (.int .i64 (j 4))).setCell ⟨g4, n * 10 + 1 + 5, none⟩ (.int .i64 (j 5))).setCell ⟨g4, n * 10 + 1 + 6, none⟩ (.int .i64 (j 6))).setCell ⟨g4, n * 10 + 1 + 7, none⟩ (.int .i64 (j 7))).setCell ⟨g4, n * 10 + 1 + 8, none⟩ (.slice aj lj.length cj)) = V from hV.symm]
    have HCV : Hid (∀ o, V.cell? ⟨g4, o, none⟩ = (wrs g4 (n * 10 + 1) (sib9 j (.slice aj lj.length cj)) v10).cell? ⟨g4, o, none⟩) := fun o => by rw [hV]
    have OG : Off (fun c => c = g4) v10 V := by rw [hV]; exact off_wrs (Off.refl _ v10) (.inl rfl)
    have OW : Off (fun _ => False) w2 V := ((HO4.out.trans HS10.out (fun _ _ h => h)).mono (E := fun c => c = g4) (fun _ _ h => h.elim)).trans OG (fun _ _ h => h) |>.mono (fun i hi e => by have := HG2.out; omega)
    clear hV
    have h41 := HG4.out
    have h42 := HQ6.out
    have HQG : Hid (¬ q11 = g4) := fun e => by omega
    have HRV : Hid _ := HRJ10.out.offF HFJ.out OG (fun x hx e => by omega)
    have HTV : Hid _ := HT2.out.free OW
    have HD1V : Hid _ := HD1.out.off OW (fun h => h)
    have H11V : Hid _ := H11.out.off OG HQG.out
    have HOW : Hid _ := OW
    have HVL : Hid (g4 < V.heap.size) := by have := OG.size; have := HS10.out.size; show _ < _; omega
    have HQG4 : Hid (¬ g4 = q) := fun e => by have h1 := HT2.out.lt; have h2 := HG2.out; omega
    have HQ11 : Hid (¬ q11 = q) := fun e => by have h1 := HT2.out.lt; have h2 := HO4.out.size; omega
    have HQ1 : Hid (¬ w.heap.size + 1 = q) := fun e => by have := HT.out.lt; omega
    have HG1 : Hid (¬ g4 = w.heap.size + 1) := fun e => by have h1 := HD1.out.lt; have h2 := HG2.out; omega
    obtain ⟨b0, k0, hc0, -, -⟩ := HTV.out.is
    have c0 : V.cell? ⟨q, 0, none⟩ = some (.slice b0 xs.length k0) := hc0.cell 0
    have fr := hc0.free
    have CQ := hc0.set 0 (.slice (some ⟨g4, 0, none⟩) xs.length c4)
    have HCQ : Hid (Cel q 73 #[.slice (some ⟨g4, 0, none⟩) xs.length c4] (V.setCell ⟨q, 0, none⟩ (.slice (some ⟨g4, 0, none⟩) xs.length c4))) := CQ
    clear OW OG h41 h42 hc0 CQ
    go_upto_region 18 with fail
    have OQ : Off (fun c => c = q) V (V.setCell ⟨q, 0, none⟩ (.slice (some ⟨g4, 0, none⟩) xs.length c4)) := (Off.refl (fun c => c = q) V).setCell (p := ⟨q, 0, none⟩) (.inl rfl) _
    generalize hv2 : V.setCell ⟨q, 0, none⟩ (.slice (some ⟨g4, 0, none⟩) xs.length c4) = V2 at HCQ OQ ⊢
    clear hv2 c0 fr
    have C1 := HD1V.out.off OQ HQ1.out
    have C11 := H11V.out.off OQ HQ11.out
    have HOQ : Hid _ := OQ
    have HC1F : Hid _ := C1
    obtain ⟨x0, x1, x2, x3, x4, x5, x6, x7, x8⟩ := cel9 C11
    obtain ⟨z0, z1, z2, z3, z4, z5, z6, z7, z8⟩ := cel9 C1
    have fr := C1.free
    clear C1 C11 OQ
    go_wp2_with fail
    refine bodyPost_ret (results_sibs3 rfl rfl rfl rfl (HC1F.out.st9 j (.slice aj lj.length cj))) rfl ?_
    have OZ := (((HO2.out.trans HOW.out (fun _ _ h => h)).mono (fun _ _ h => h.elim)).trans HOQ.out (fun _ _ h => h)).st9 (b := w.heap.size + 1) (.inr (by omega)) j (.slice aj lj.length cj)
    have OB := (Off.refl (fun x => x = w.heap.size + 1) V2).st9 (.inl rfl) j (.slice aj lj.length cj)
    have hd1 := HD1.out.lt
    have h24 := HO4.out.size
    have hq2 := HTV.out.noI
    have RJ := (HRV.out.offN HOQ.out hq2).offF HFJ.out OB (fun x hx e => by omega)
    have CF := HCQ.out.off OB (fun e => HQ1.out e.symm)
    have CG : ∀ o, World.cell? _ ⟨g4, o, none⟩ = (wrs g4 (n * 10 + 1) (sib9 j (.slice aj lj.length cj)) v10).cell? ⟨g4, o, none⟩ := fun o => by rw [World.cell?_of_block (a := ⟨g4, o, none⟩) (OB.block g4 (by have := HOQ.out.size; have := HVL.out; omega) HG1.out), World.cell?_of_block (a := ⟨g4, o, none⟩) (HOQ.out.block g4 HVL.out HQG4.out), HCV.out o]
    have EN := ens_set (v := ⟨k, j, aj, cj, lj⟩) HOWN5.out hx HKK.out.symm CG (fun e he => (HT.out.row e he).offN OZ HT.out.noI) RJ
    refine ⟨j, aj, cj, lj, sm, 0, xs.set n ⟨k, j, aj, cj, lj⟩, rfl, ?_, RJ, ⟨⟨_, c4, by rw [List.length_set]; exact CF, EN, fun e => by cases e⟩, sor_set E.key HT.out.sor hx HKK.out.symm, by rw [List.length_set]; exact hfew⟩, OZ⟩
    have hxa : (absE xs)[n]? = some x.abs := by rw [absE, List.getElem?_map, hx]; rfl
    have e1 : absE (xs.set n ⟨k, j, aj, cj, lj⟩) = (absE xs).set n ⟨k, j, cont lj⟩ := by rw [absE, List.map_set]; rfl
    rw [e1, set_put K.key (v := ⟨k, j, cont lj⟩) (abs_sor.2 HT.out.sor) hxa HKK.out.symm, ← HSM.out, same_comm, HLJ.out, HJ.out]
    exact joinR_old HM.out ef.out
   ·have HSZ := hS.size
    go_simp
    refine hK'.out _ _ (hS.alloc _) (fun hS => ?_)
    clear hK' K'
    have DQ : Cel vd.heap.size 38 #[.int .i64 (zer 0), .int .i64 (zer 1), .int .i64 (zer 2), .int .i64 (zer 3), .int .i64 (zer 4), .int .i64 (zer 5), .int .i64 (zer 6), .int .i64 (zer 7), .slice none 0 0] (vd.alloc (.cells #[.int .i64 0, .int .i64 0, .int .i64 0, .int .i64 0, .int .i64 0, .int .i64 0, .int .i64 0, .int .i64 0, .slice none 0 0] 38)) := Cel.new vd _ _
    have OV0 : Off (fun _ => False) vd (vd.alloc (.cells #[.int .i64 0, .int .i64 0, .int .i64 0, .int .i64 0, .int .i64 0, .int .i64 0, .int .i64 0, .int .i64 0, .slice none 0 0] 38)) := (Off.refl _ vd).alloc _
    have hq7 : v4.heap.size ≤ vd.heap.size ∧ vd.heap.size < (vd.alloc (.cells #[.int .i64 0, .int .i64 0, .int .i64 0, .int .i64 0, .int .i64 0, .int .i64 0, .int .i64 0, .int .i64 0, .slice none 0 0] 38)).heap.size := ⟨HSZ, by simp [World.size_alloc]⟩
    generalize hV0 : (vd.alloc (.cells #[.int .i64 0, .int .i64 0, .int .i64 0, .int .i64 0, .int .i64 0, .int .i64 0, .int .i64 0, .int .i64 0, .slice none 0 0] 38)) = V8 at DQ hS hq7 OV0 ⊢
    generalize hQ : vd.heap.size = q11 at DQ hq7 ⊢
    have HQ5 : Hid (vd.heap.size ≤ q11) := by show _ ≤ _; omega
    have HQ6 : Hid (v4.heap.size ≤ q11) := hq7.1
    have HQ7 : Hid (q11 < V8.heap.size) := hq7.2
    clear hV0 hQ hq7
    refine wpAnyH_ready (rs := [7]) (by kernel_rfl) (by simp) ?_
    refine AllReadyH.cons rfl (fun K' hK' => ?_) AllReadyH.nil
    go_simp
    refine (gjoinN_any x.f f x.a a x.cap ca x.l l _ (HRX.out.off hS) (HR4.out.off hS)).mono ?_
    rintro e v7 ⟨j, aj, cj, lj, rfl, hj, hlj, rj, o7, hn1, hn2⟩
    have HJ : Hid _ := hj
    have HLJ : Hid _ := hlj
    have hsz := hS.size
    have HFJ : Hid (Far V8.heap.size aj lj) := ⟨fun c hc => by have := hn1 c hc; omega, fun v hv c hc => by have := hn2 v hv c hc; omega⟩
    have hS7 := hS.trans o7 (fun _ _ h => h)
    refine hK'.out _ _ hS7 (fun hS => ?_)
    replace DQ := DQ.off o7 (fun h => h)
    clear hK' K' hS7 hj hlj hn1 hn2 hsz
    obtain ⟨x0, x1, x2, x3, x4, x5, x6, x7, x8⟩ := cel9 DQ
    have fz := DQ.free
    refine wpAnyH_ready (rs := [9]) (by kernel_rfl) (by simp) ?_
    refine AllReadyH.cons rfl (fun K' hK' => ?_) AllReadyH.nil
    go_simp
    have hS5 := hS.st9 (b := q11) (.inr HQ6.out) j (.slice aj lj.length cj)
    refine hK'.out _ _ hS5 (fun hS => ?_)
    clear hK' K' hS5
    have ZQ := DQ.st9 j (.slice aj lj.length cj)
    have OS : Off (fun c => c = q11) v7 (((((((((v7.setCell ⟨q11, 0, none⟩ (.int .i64 (j 0))).setCell ⟨q11, 1, none⟩ (.int .i64 (j 1))).setCell ⟨q11, 2, none⟩ (.int .i64 (j 2))).setCell ⟨q11, 3, none⟩ (.int .i64 (j 3))).setCell ⟨q11, 4, none⟩ (.int .i64 (j 4))).setCell ⟨q11, 5, none⟩ (.int .i64 (j 5))).setCell ⟨q11, 6, none⟩ (.int .i64 (j 6))).setCell ⟨q11, 7, none⟩ (.int .i64 (j 7))).setCell ⟨q11, 8, none⟩ (.slice aj lj.length cj)) := (Off.refl (fun c => c = q11) v7).st9 (.inl rfl) j (.slice aj lj.length cj)
    clear DQ fz x0 x1 x2 x3 x4 x5 x6 x7 x8
    generalize hV : (((((((((v7.setCell ⟨q11, 0, none⟩ (.int .i64 (j 0))).setCell ⟨q11, 1, none⟩ (.int .i64 (j 1))).setCell ⟨q11, 2, none⟩ (.int .i64 (j 2))).setCell ⟨q11, 3, none⟩ (.int .i64 (j 3))).setCell ⟨q11, 4, none⟩ (.int .i64 (j 4))).setCell ⟨q11, 5, none⟩ (.int .i64 (j 5))).setCell ⟨q11, 6, none⟩ (.int .i64 (j 6))).setCell ⟨q11, 7, none⟩ (.int .i64 (j 7))).setCell ⟨q11, 8, none⟩ (.slice aj lj.length cj)) = V9 at ZQ hS OS ⊢
    clear hV
    refine wpAnyH_done (by kernel_rfl) ?_ _
    have HRJ : Hid (Row V9 aj cj lj) := rj.offF HFJ.out OS (fun x hx e => by have := HQ7.out; omega)
    replace HFJ : Hid (Far v4.heap.size aj lj) := HFJ.out.mono (by have := HQ7.out; have := HQ6.out; omega)
    clear rj o7 OV0
    have HS9 : Hid _ := hS
    have HC11 : Hid _ := ZQ
    clear hS ZQ OS
    go_upto_region 15 with fail
    refine wp_region_held_drew (S := fun w' => Off (fun _ => False) V9 w') (by kernel_rfl) ((Off.refl _ V9).drew) (fun hS => ?_)
    refine take_at (i := 0) 85 (v := .agg #[.int .i64 (j 0), .int .i64 (j 1), .int .i64 (j 2), .int .i64 (j 3), .int .i64 (j 4), .int .i64 (j 5), .int .i64 (j 6), .int .i64 (j 7), .slice aj lj.length cj]) rfl rfl (by kernel_rfl) (by kernel_rfl) (by kernel_rfl) (fun _ _ _ h => h) (Or.inl ⟨by rfl, fun w' hw' => by obtain ⟨x0, x1, x2, x3, x4, x5, x6, x7, x8⟩ := cel9 (HC11.out.off hw' (fun h => h)); go_simp⟩) hS ?_
    simp only [Act.put, lsA, lsZ, lsS]
    refine take_at (i := 1) 86 (v := .slice (some ⟨g4, 0, none⟩) xs.length c4) rfl rfl (by kernel_rfl) (by kernel_rfl) (by kernel_rfl) (fun _ _ _ h => h) (Or.inl ⟨by rfl, fun w' hw' => by go_simp⟩) hS ?_
    simp only [Act.put, lsA, lsZ, lsS]
    refine take_at (i := 2) 87 (v := .int .i64 (n : Int)) rfl rfl (by kernel_rfl) (by kernel_rfl) (by kernel_rfl) (fun _ _ _ h => h) (Or.inl ⟨by rfl, fun w' hw' => by go_simp⟩) hS ?_
    simp only [Act.put, lsA, lsZ, lsS]
    refine take_at (i := 3) 88 (v := .pointer (some ⟨g4, n * 10, none⟩)) rfl rfl (by kernel_rfl) (by kernel_rfl) (by kernel_rfl) (fun _ _ _ h => h) (Or.inl ⟨by rfl, fun w' hw' => exec_idx10 rfl (idx_row10 hlt c4 g4 w')⟩) hS ?_
    simp only [Act.put, lsA, lsZ, lsS]
    refine take_at (i := 4) 89 (v := .pointer (some ⟨g4, n * 10 + 1, none⟩)) rfl rfl (by kernel_rfl) (by kernel_rfl) (by kernel_rfl) (fun _ _ _ h => h) (Or.inl ⟨by rfl, fun w' hw' => by go_simp⟩) hS ?_
    simp only [Act.put, lsA, lsZ, lsS]
    refine take_at (i := 5) 90 (v := .agg #[.int .i64 (x.f 0), .int .i64 (x.f 1), .int .i64 (x.f 2), .int .i64 (x.f 3), .int .i64 (x.f 4), .int .i64 (x.f 5), .int .i64 (x.f 6), .int .i64 (x.f 7), .slice x.a x.l.length x.cap]) rfl rfl (by kernel_rfl) (by kernel_rfl) (by kernel_rfl) (fun _ _ _ h => h) (Or.inl ⟨by rfl, fun w' hw' => by obtain ⟨k0, k1, k2, k3, k4, k5, k6, k7, k8, k9⟩ := ent10 (cells_off10 (HS9.out.trans hw' (fun _ _ h => h)) HKF.out); go_simp⟩) hS ?_
    simp only [Act.put, lsA, lsZ, lsS]
    refine wpAnyH_ready (rs := [6]) (by kernel_rfl) (by simp) ?_
    refine AllReadyH.cons rfl (fun K' hK' => ?_) AllReadyH.nil
    go_simp
    refine (gsame_any j x.f aj x.a cj x.cap lj x.l _ (HRJ.out.off hS) (HRX.out.off (HS9.out.trans hS (fun _ _ h => h)))).mono ?_
    rintro e v10 ⟨rfl, o10⟩
    have hS1 := hS.trans o10 (fun _ _ h => h)
    refine hK'.out _ _ hS1 (fun hS => ?_)
    clear hK' K' hS1 o10
    generalize hsm : sameS j x.f (cont lj) (cont x.l) = sm
    have HSM : Hid _ := hsm
    clear hsm
    refine take_at (i := 7) 12 (v := .bool sm) rfl rfl (by kernel_rfl) (by kernel_rfl) (by kernel_rfl) (fun _ _ _ h => h) (Or.inl ⟨by rfl, fun w' hw' => by go_simp⟩) hS ?_
    simp only [Act.put, lsA, lsZ, lsS]
    refine wpAnyH_done (by kernel_rfl) ?_ _
    have HS10 : Hid _ := HS9.out.trans hS (fun _ _ h => h)
    have H11 : Hid _ := HC11.out.off hS (fun h => h)
    have HRJ10 : Hid _ := HRJ.out.off hS
    clear hS HC11
    have HOWN5 : Hid _ := HOWN4.out.off HS10.out (fun _ _ _ h => h)
    obtain ⟨cur, hcur⟩ : ∃ cur, Cel g4 40 cur v10 := own_cel HOWN5.out hx
    have kf5 := cells_off10 HS10.out HKF.out
    obtain ⟨k0, k1, k2, k3, k4, k5, k6, k7, k8, k9⟩ := ent10 kf5
    have fr := hcur.free
    obtain ⟨x0, x1, x2, x3, x4, x5, x6, x7, x8⟩ := cel9 H11.out
    have hix4 := idx_row10 hlt c4 g4
    clear kf5
    go_upto_region 17 with fail
    clear k0 k1 k2 k3 k4 k5 k6 k7 k8 k9 fr hcur cur x0 x1 x2 x3 x4 x5 x6 x7 x8 hix4
    obtain ⟨V, hV⟩ : ∃ V, V = wrs g4 (n * 10 + 1) (sib9 j (.slice aj lj.length cj)) v10 := ⟨_, rfl⟩
    rw [show (((((((((v10.setCell ⟨g4, n * 10 + 1, none⟩ (.int .i64 (j 0))).setCell ⟨g4, n * 10 + 1 + 1, none⟩ (.int .i64 (j 1))).setCell ⟨g4, n * 10 + 1 + 2, none⟩ (.int .i64 (j 2))).setCell ⟨g4, n * 10 + 1 + 3, none⟩ (.int .i64 (j 3))).setCell ⟨g4, n * 10 + 1 + 4, none⟩ (.int .i64 (j 4))).setCell ⟨g4, n * 10 + 1 + 5, none⟩ (.int .i64 (j 5))).setCell ⟨g4, n * 10 + 1 + 6, none⟩ (.int .i64 (j 6))).setCell ⟨g4, n * 10 + 1 + 7, none⟩ (.int .i64 (j 7))).setCell ⟨g4, n * 10 + 1 + 8, none⟩ (.slice aj lj.length cj)) = V from hV.symm]
    have HCV : Hid (∀ o, V.cell? ⟨g4, o, none⟩ = (wrs g4 (n * 10 + 1) (sib9 j (.slice aj lj.length cj)) v10).cell? ⟨g4, o, none⟩) := fun o => by rw [hV]
    have OG : Off (fun c => c = g4) v10 V := by rw [hV]; exact off_wrs (Off.refl _ v10) (.inl rfl)
    have OW : Off (fun _ => False) w2 V := ((HO4.out.trans HS10.out (fun _ _ h => h)).mono (E := fun c => c = g4) (fun _ _ h => h.elim)).trans OG (fun _ _ h => h) |>.mono (fun i hi e => by have := HG2.out; omega)
    clear hV
    have h41 := HG4.out
    have h42 := HQ6.out
    have HQG : Hid (¬ q11 = g4) := fun e => by omega
    have HRV : Hid _ := HRJ10.out.offF HFJ.out OG (fun x hx e => by omega)
    have HTV : Hid _ := HT2.out.free OW
    have HD1V : Hid _ := HD1.out.off OW (fun h => h)
    have H11V : Hid _ := H11.out.off OG HQG.out
    have HOW : Hid _ := OW
    have HVL : Hid (g4 < V.heap.size) := by have := OG.size; have := HS10.out.size; show _ < _; omega
    have HQG4 : Hid (¬ g4 = q) := fun e => by have h1 := HT2.out.lt; have h2 := HG2.out; omega
    have HQ11 : Hid (¬ q11 = q) := fun e => by have h1 := HT2.out.lt; have h2 := HO4.out.size; omega
    have HQ1 : Hid (¬ w.heap.size + 1 = q) := fun e => by have := HT.out.lt; omega
    have HG1 : Hid (¬ g4 = w.heap.size + 1) := fun e => by have h1 := HD1.out.lt; have h2 := HG2.out; omega
    obtain ⟨b0, k0, hc0, -, -⟩ := HTV.out.is
    have c0 : V.cell? ⟨q, 0, none⟩ = some (.slice b0 xs.length k0) := hc0.cell 0
    have fr := hc0.free
    have CQ := hc0.set 0 (.slice (some ⟨g4, 0, none⟩) xs.length c4)
    have HCQ : Hid (Cel q 73 #[.slice (some ⟨g4, 0, none⟩) xs.length c4] (V.setCell ⟨q, 0, none⟩ (.slice (some ⟨g4, 0, none⟩) xs.length c4))) := CQ
    clear OW OG h41 h42 hc0 CQ
    go_upto_region 18 with fail
    have OQ : Off (fun c => c = q) V (V.setCell ⟨q, 0, none⟩ (.slice (some ⟨g4, 0, none⟩) xs.length c4)) := (Off.refl (fun c => c = q) V).setCell (p := ⟨q, 0, none⟩) (.inl rfl) _
    generalize hv2 : V.setCell ⟨q, 0, none⟩ (.slice (some ⟨g4, 0, none⟩) xs.length c4) = V2 at HCQ OQ ⊢
    clear hv2 c0 fr
    have C1 := HD1V.out.off OQ HQ1.out
    have C11 := H11V.out.off OQ HQ11.out
    have HOQ : Hid _ := OQ
    have HC1F : Hid _ := C1
    obtain ⟨x0, x1, x2, x3, x4, x5, x6, x7, x8⟩ := cel9 C11
    obtain ⟨z0, z1, z2, z3, z4, z5, z6, z7, z8⟩ := cel9 C1
    have fr := C1.free
    clear C1 C11 OQ
    go_wp2_with fail
    refine bodyPost_ret (results_sibs3 rfl rfl rfl rfl (HC1F.out.st9 j (.slice aj lj.length cj))) rfl ?_
    have OZ := (((HO2.out.trans HOW.out (fun _ _ h => h)).mono (fun _ _ h => h.elim)).trans HOQ.out (fun _ _ h => h)).st9 (b := w.heap.size + 1) (.inr (by omega)) j (.slice aj lj.length cj)
    have OB := (Off.refl (fun x => x = w.heap.size + 1) V2).st9 (.inl rfl) j (.slice aj lj.length cj)
    have hd1 := HD1.out.lt
    have h24 := HO4.out.size
    have hq2 := HTV.out.noI
    have RJ := (HRV.out.offN HOQ.out hq2).offF HFJ.out OB (fun x hx e => by omega)
    have CF := HCQ.out.off OB (fun e => HQ1.out e.symm)
    have CG : ∀ o, World.cell? _ ⟨g4, o, none⟩ = (wrs g4 (n * 10 + 1) (sib9 j (.slice aj lj.length cj)) v10).cell? ⟨g4, o, none⟩ := fun o => by rw [World.cell?_of_block (a := ⟨g4, o, none⟩) (OB.block g4 (by have := HOQ.out.size; have := HVL.out; omega) HG1.out), World.cell?_of_block (a := ⟨g4, o, none⟩) (HOQ.out.block g4 HVL.out HQG4.out), HCV.out o]
    have EN := ens_set (v := ⟨k, j, aj, cj, lj⟩) HOWN5.out hx HKK.out.symm CG (fun e he => (HT.out.row e he).offN OZ HT.out.noI) RJ
    refine ⟨j, aj, cj, lj, sm, 0, xs.set n ⟨k, j, aj, cj, lj⟩, rfl, ?_, RJ, ⟨⟨_, c4, by rw [List.length_set]; exact CF, EN, fun e => by cases e⟩, sor_set E.key HT.out.sor hx HKK.out.symm, by rw [List.length_set]; exact hfew⟩, OZ⟩
    have hxa : (absE xs)[n]? = some x.abs := by rw [absE, List.getElem?_map, hx]; rfl
    have e1 : absE (xs.set n ⟨k, j, aj, cj, lj⟩) = (absE xs).set n ⟨k, j, cont lj⟩ := by rw [absE, List.map_set]; rfl
    rw [e1, set_put K.key (v := ⟨k, j, cont lj⟩) (abs_sor.2 HT.out.sor) hxa HKK.out.symm, ← HSM.out, same_comm, HLJ.out, HJ.out]
    exact joinR_old HM.out ef.out
end Go.Proofs.Ytpnnpdfmoldiiaa
