import Derived.Test.YtfhacfedklaaiaaSms11M
import Derived.Test.YtfhacfedklaaiaaGReap
/- The walk of HintsStay. -/
namespace Go.Proofs.Ytfhacfedklaaiaa
open Go.RowKit

section
variable (f : Nat → Int) (l : List A)
/-- Is a hint known to one who has seen so much? -/
def lq (x : HK) : Bool := leqS x.k.f f x.k.l l
/-- What is left when the first i were offered; how many went. -/
def s3 (X : List HK) (i : Nat) : List HK := (X.take i).filter (fun x => !lq f l x) ++ X.drop i
def g3 (X : List HK) (i : Nat) : Nat := ((X.take i).filter (lq f l)).length
theorem s3_zero (X : List HK) : s3 f l X 0 = X := by simp [s3]
theorem s3_end (X : List HK) : s3 f l X X.length = X.filter (fun x => !lq f l x) := by simp [s3]
theorem s3_sor {X : List HK} (h : Sor HK.nk X) (i : Nat) : Sor HK.nk (s3 f l X i) := by
  refine List.Pairwise.sublist ?_ h
  have e : X = X.take i ++ X.drop i := (List.take_append_drop i X).symm
  conv => rhs; rw [e]
  exact List.Sublist.append List.filter_sublist (List.Sublist.refl _)
theorem drop_cons {α : Type} {X : List α} {i : Nat} {x : α} (hx : X[i]? = some x) : X.drop i = x :: X.drop (i + 1) := by
  obtain ⟨hl, rfl⟩ := List.getElem?_eq_some_iff.1 hx
  exact List.drop_eq_getElem_cons hl
theorem s3_fnd {X : List HK} (h : Sor HK.nk X) {i : Nat} {x : HK} (hx : X[i]? = some x) : fndG HK.nk x.nk (s3 f l X i) = some x :=
  (fnd_some HK.nk (s3_sor f l h i)).2 ⟨by unfold s3; rw [drop_cons hx]; simp, rfl⟩
theorem s3_drpB {X : List HK} (h : Sor HK.nk X) {i : Nat} {x : HK} (hx : X[i]? = some x) : drpB (s3 f l X i) x.nk f l = lq f l x := by
  unfold drpB
  rw [s3_fnd f l h hx]
  rfl
theorem del_mid {A B : List HK} {x : HK} (h : Sor HK.nk (A ++ x :: B)) : delG HK.nk x.nk (A ++ x :: B) = A ++ B := by
  have hx : (A ++ x :: B)[A.length]? = some x := by simp
  have := erase_del HK.nk h hx
  rw [← this]
  simp
theorem s3_step {X : List HK} (h : Sor HK.nk X) {i : Nat} {x : HK} (hx : X[i]? = some x) : drpT (s3 f l X i) x.nk f l = s3 f l X (i + 1) := by
  unfold drpT
  rw [s3_drpB f l h hx]
  have hs := s3_sor f l h i
  unfold s3 at hs ⊢
  rw [drop_cons hx] at hs ⊢
  rw [List.take_add_one, hx]
  cases e : lq f l x
  · simp [e]
  · simp only [if_true]
    rw [del_mid hs]
    simp [e]
theorem g3_zero (X : List HK) : g3 f l X 0 = 0 := by simp [g3]
theorem g3_step {X : List HK} {i : Nat} {x : HK} (hx : X[i]? = some x) : g3 f l X (i + 1) = g3 f l X i + (if lq f l x = true then 1 else 0) := by
  unfold g3
  rw [List.take_add_one, hx]
  cases e : lq f l x <;> simp [e]
theorem g3_le (X : List HK) (i : Nat) : g3 f l X i ≤ i := by
  unfold g3
  have := List.length_filter_le (lq f l) (X.take i)
  rw [List.length_take] at this
  omega
theorem g3_end (X : List HK) : g3 f l X X.length + (X.filter (fun x => !lq f l x)).length = X.length := by
  unfold g3
  rw [List.take_length]
  induction X with
  | nil => rfl
  | cons x X ih =>
    rw [List.filter_cons, List.filter_cons]
    cases lq f l x
    · simp only [Bool.not_false, if_true, Bool.false_eq_true, if_false, List.length_cons]
      omega
    · simp only [Bool.not_true, if_true, Bool.false_eq_true, if_false, List.length_cons]
      omega
end
/-- What is offered to itself goes. -/
theorem d4_B {Y : List HK} (ok : OkS Y) {i : Nat} {x : HK} (hx : Y[i]? = some x) : drpB (Y.drop i) x.nk x.k.f x.k.l = true := by
  have hs : Sor HK.nk (Y.drop i) := List.Pairwise.sublist (List.drop_sublist i Y) ok.sor
  have hf : fndG HK.nk x.nk (Y.drop i) = some x := (fnd_some HK.nk hs).2 ⟨by rw [drop_cons hx]; simp, rfl⟩
  unfold drpB
  rw [hf]
  exact ord_refl (ok.may (List.mem_of_getElem? hx))
theorem d4_T {Y : List HK} (ok : OkS Y) {i : Nat} {x : HK} (hx : Y[i]? = some x) : drpT (Y.drop i) x.nk x.k.f x.k.l = Y.drop (i + 1) := by
  unfold drpT
  rw [d4_B ok hx, if_pos rfl]
  have hs : Sor HK.nk (Y.drop i) := List.Pairwise.sublist (List.drop_sublist i Y) ok.sor
  rw [drop_cons hx] at hs ⊢
  have := del_mid (A := []) hs
  simpa using this
theorem s3_same {f : Nat → Int} {l : List A} {X : List HK} {i : Nat} {x : HK} (hx : X[i]? = some x) (e : lq f l x = false) : (s3 f l X (i + 1)).length = (s3 f l X i).length := by
  unfold s3
  rw [drop_cons hx, List.take_add_one, hx]
  simp [e]
set_option maxRecDepth 100000 in
set_option maxHeartbeats 4000000 in
theorem stay_walk (a : Option Addr) (cap : Nat) (cs : List C) (f : Nat → Int) (sa : Option Addr) (sc : Nat) (l : List V) (w : World) (hE : Cas w a cap cs) (hnr : ∀ e ∈ cs, Nrm e.h.e.f ∧ Nrm e.f) (hr : Row w sa sc l) (_ : Nrm f) : Calls Try.prog 6 #[.slice a cs.length cap, .agg #[.int .i64 (f 0), .int .i64 (f 1), .int .i64 (f 2), .int .i64 (f 3), .int .i64 (f 4), .int .i64 (f 5), .int .i64 (f 6), .int .i64 (f 7), .slice sa l.length sc]] w fun e w' => e = .returned (.bool true) ∧ Off (fun _ => False) w w' := by
  have hnot := not_any
  have C0 := Cel.new w 35 #[.int .i64 (f 0), .int .i64 (f 1), .int .i64 (f 2), .int .i64 (f 3), .int .i64 (f 4), .int .i64 (f 5), .int .i64 (f 6), .int .i64 (f 7), .slice sa l.length sc]
  have O0 : Off (fun _ => False) w (w.alloc (.cells #[.int .i64 (f 0), .int .i64 (f 1), .int .i64 (f 2), .int .i64 (f 3), .int .i64 (f 4), .int .i64 (f 5), .int .i64 (f 6), .int .i64 (f 7), .slice sa l.length sc] 35)) := (Off.refl _ w).alloc _
  have hbb : cs.length ≤ 9223372036854775807 := Nat.le_trans hE.len hE.bound
  go_enter Try.func6, Try.ntmps6
  go_upto_region 1 with fail
  generalize hq : w.heap.size = qs at C0 ⊢
  generalize hv : w.alloc (.cells #[.int .i64 (f 0), .int .i64 (f 1), .int .i64 (f 2), .int .i64 (f 3), .int .i64 (f 4), .int .i64 (f 5), .int .i64 (f 6), .int .i64 (f 7), .slice sa l.length sc] 35) = V0 at C0 O0 ⊢
  clear hq hv
  have HE0 : Hid _ := hE.off O0
  have HNR : Hid _ := hnr
  have HR0 : Hid _ := hr.off O0
  have HC0 : Hid _ := C0
  have HO0' : Hid _ := O0
  clear hE hnr hr C0 O0
  go_wp2_with fail
  refine (light_any a cap cs V0 HE0.out).mono ?_
  rintro e W1 ⟨b, rfl, -, o1⟩
  have HO1 : Hid _ := HO0'.out.trans o1 (fun _ _ h => h)
  have HE : Hid _ := HE0.out.off o1
  have HRS : Hid _ := HR0.out.off o1
  have HCS : Hid _ := HC0.out.off o1 (fun h => h)
  clear o1 HE0 HR0 HC0 HO0'
  obtain ⟨s0, s1, s2, s3, s4, s5, s6, s7, s8⟩ := cel9 HCS.out
  by_cases hl : b = true ∧ l.length ≤ 20
  · obtain ⟨rfl, h20⟩ := hl
    have d1 : decide ((20 : Int) < (l.length : Int)) = false := decide_eq_false (by omega)
    have d2 : decide (20 < l.length) = false := decide_eq_false (by omega)
    go_wp2_with fail
    clear s0 s1 s2 s3 s4 s5 s6 s7 s8 d1 d2
    refine (hnew_any W1).mono ?_
    rintro e w2 ⟨p, rfl, hs, hp, o2⟩
    have HS0 : Hid _ := hs
    have HP : Hid _ := hp
    have HO0 : Hid _ := o2
    clear hs hp o2
    go_wp2_with fail
    go_loopw [33] (fun y wr => ∃ (n : Nat) (D : Nat → Prop) (xs : List H), y = .int .i64 (n : Int) ∧ n ≤ cs.length ∧ HSt D p xs wr ∧ (∀ c, D c → W1.heap.size ≤ c) ∧ Off (fun _ => False) W1 wr) (fun y _ => (cs.length - intOf y).toNat)
    case atStart => exact ⟨0, _, [], rfl, by omega, HS0.out, fun c hc => by rw [hc]; exact HP.out, HO0.out⟩
    case round =>
      obtain ⟨n, D, xs, rfl, hn, hs, hd, O⟩ := hrel
      have HS : Hid _ := hs
      have HD : Hid _ := hd
      have HO : Hid _ := O
      clear hs hd O
      by_cases hlt : n < cs.length
      · have e1 : decide ((n : Int) < (cs.length : Int)) = true := decide_eq_true (by omega)
        have e2 : decide (n < cs.length) = true := decide_eq_true hlt
        obtain ⟨x, hx⟩ : ∃ x, cs[n]? = some x := ⟨_, List.getElem?_eq_getElem hlt⟩
        have hE := HE.out.off HO.out
        obtain ⟨bx, ox, rfl, kx, rx, sx⟩ := hE.at_ n x hx
        have HRX : Hid _ := rx
        have HSX : Hid _ := sx
        clear rx sx
        clear hE
        have HNX : Hid (Nrm x.h.e.f) := (HNR.out x (List.mem_of_getElem? hx)).1
        clear hx
        go_upto_region 6 with fail
        refine wp_region_list ?_
        refine wpList_exec 35 rfl rfl (exec_idx10 rfl (idx_calls hlt _ _ _ _)) ?_
        simp only [Act.put, List.setIfInBounds_toArray, List.set_cons_zero, List.set_cons_succ]
        refine wpList_exec 36 rfl rfl (exec_load rfl (run_loadAt_mid wr bx (ox + n * 21) 41 (ccs x) _ kx Try.underlying41 rfl (by kernel_rfl))) ?_
        simp only [Act.put, List.setIfInBounds_toArray, List.set_cons_zero, List.set_cons_succ]
        refine wpList_exec 7 rfl rfl (exec_alloc rfl (allocC wr)) ?_
        simp only [Act.put, List.setIfInBounds_toArray, List.set_cons_zero, List.set_cons_succ]
        refine wpList_skip rfl rfl (exec_store rfl (storeC wr x)) ?_
        have Cq8 := Cel.new wr 41 (ccs x).toArray
        have OA : Off (fun _ => False) wr (wr.alloc (.cells (ccs x).toArray 41)) := (Off.refl _ wr).alloc _
        generalize hq : wr.heap.size = q8 at Cq8 ⊢
        generalize hv : wr.alloc (.cells (ccs x).toArray 41) = V8 at Cq8 OA ⊢
        clear hq hv kx
        obtain ⟨x0, x1, x2, x3, x4, x5, x6, x7, x8, x9, x10, x11, x12, x13, x14, x15, x16, x17, x18, x19, x20⟩ := cel21 (w := V8) Cq8
        have HO8 : Hid _ := HO.out.trans OA (fun _ _ h => h)
        have HRX8 : Hid _ := HRX.out.off OA
        have HS8 : Hid _ := HS.out.free OA
        have HLW : Hid (wr.heap.size ≤ V8.heap.size) := OA.size
        clear OA Cq8
        go_wp2_with fail
        clear x0 x1 x2 x3 x4 x5 x6 x7 x8 x9 x10 x11 x12 x13 x14 x15 x16 x17 x18 x19 x20
        refine (hput_any D p xs x.h V8 HS8.out HRX8.out HNX.out).mono ?_
        generalize (hpR (absH xs) x.h.abs).ch = r1
        generalize (hpR (absH xs) x.h.abs).er = r2
        rintro e w3 ⟨rfl, D', xs', hs', -, o3, hd'⟩
        have HS3 : Hid _ := hs'
        have HO3 : Hid (Off (fun _ => False) W1 w3) := HO8.out.trans o3 (fun i hi e => by have := HD.out i e; omega)
        have HD3 : Hid (∀ c, D' c → W1.heap.size ≤ c) := fun c hc => by rcases hd' c hc with k | k; exact HD.out c k; have h1 := HLW.out; have h2 := HO.out.size; omega
        clear hs' hd' o3
        go_wp2_with fail
        go_roundw
        case rel => exact ⟨n + 1, D', xs', by go_num, by omega, HS3.out, HD3.out, HO3.out⟩
        case measure => simp [intOf]; omega
      · obtain rfl : n = cs.length := by omega
        have e1 : decide ((cs.length : Int) < (cs.length : Int)) = false := decide_eq_false (by omega)
        have e2 : decide (cs.length < cs.length) = false := decide_eq_false (by omega)
        go_wp2_with fail
        clear e1 e2
        refine (hall_any D p xs wr HS.out).mono ?_
        rintro e w5 ⟨a1, c1, ys, rfl, hys, own5, row5, ter5, new5, o5⟩
        have HTD : Hid (Tlr wr.heap.size a1 c1 ys w5) := ⟨own5.hns, new5, row5, ter5⟩
        have HYS : Hid _ := hys
        have HS5 : Hid _ := HS.out.free o5
        have HO5 : Hid _ := HO.out.trans o5 (fun _ _ h => h)
        obtain ⟨N0, hN0⟩ : ∃ N0, N0 = wr.heap.size := ⟨_, rfl⟩
        rw [← hN0] at HTD
        have HDN : Hid (∀ c, D c → c < N0) := fun c hc => by rw [hN0]; exact HS.out.dlt c hc
        have HN05 : Hid (N0 ≤ w5.heap.size) := by show _ ≤ _; rw [hN0]; exact o5.size
        clear hys own5 row5 ter5 new5 o5 hN0
        have HOK : Hid (OkS (absH xs)) := HS.out.ok
        have HYL : Hid (ys.length ≤ 64) := by have h1 := congrArg List.length HYS.out; rw [absH_len, absH_len] at h1; have := HS.out.few; show _ ≤ _; omega
        clear HS HO HNR HE
        obtain ⟨zs, rfl⟩ : ∃ zs, zs = xs := ⟨_, rfl⟩
        have hyl0 := HYL.out
        go_wp2_with fail
        clear hyl0
        go_loopw [46] (fun y wr => ∃ (m : Nat) (D : Nat → Prop) (xs : List H), y = .int .i64 (m : Int) ∧ m ≤ ys.length ∧ HSt D p xs wr ∧ absH xs = absH zs ∧ (∀ c, D c → W1.heap.size ≤ c) ∧ (∀ c, D c → c < N0 ∨ w5.heap.size ≤ c) ∧ Off (fun _ => False) W1 wr ∧ Off (fun c => c < N0) w5 wr) (fun y _ => (ys.length - intOf y).toNat)
        case atStart => exact ⟨0, D, zs, rfl, by omega, HS5.out, rfl, HD.out, fun c hc => .inl (HDN.out c hc), HO5.out, Off.refl _ _⟩
        case round =>
          clear HS5 HO5 HD HDN D
          obtain ⟨m, D, xs, rfl, hm, hs, hxs, hd, hdn, O, OT⟩ := hrel
          have hyl := HYL.out
          have HS : Hid _ := hs
          have HXS : Hid _ := hxs
          have HD : Hid _ := hd
          have HDN : Hid _ := hdn
          have HO : Hid _ := O
          have HOT : Hid _ := OT
          clear hs hxs hd hdn O OT
          by_cases hlt : m < ys.length
          · have e1 : decide ((m : Int) < (ys.length : Int)) = true := decide_eq_true (by omega)
            have e2 : decide (m < ys.length) = true := decide_eq_true hlt
            obtain ⟨x, hx⟩ : ∃ x, ys[m]? = some x := ⟨_, List.getElem?_eq_getElem hlt⟩
            have htd := HTD.out.off HOT.out
            obtain ⟨bx, ox, rfl, kx⟩ := htd.hns.at_ m x hx
            obtain ⟨k0, k1, k2, k3, k4, k5, k6, k7, k8, k9, k10⟩ := kx.cells
            have hix := idx_hins hlt
            have HRX : Hid _ := htd.row x (List.mem_of_getElem? hx)
            have HX : Hid _ := hx
            clear kx htd hx
            go_upto_region 13 with fail
            have Cq9 := Cel.new wr 39 #[.int .i64 x.node, .string x.e.key, .int .i64 (x.e.f 0), .int .i64 (x.e.f 1), .int .i64 (x.e.f 2), .int .i64 (x.e.f 3), .int .i64 (x.e.f 4), .int .i64 (x.e.f 5), .int .i64 (x.e.f 6), .int .i64 (x.e.f 7), .slice x.e.a x.e.l.length x.e.cap]
            have OA : Off (fun _ => False) wr (wr.alloc (.cells #[.int .i64 x.node, .string x.e.key, .int .i64 (x.e.f 0), .int .i64 (x.e.f 1), .int .i64 (x.e.f 2), .int .i64 (x.e.f 3), .int .i64 (x.e.f 4), .int .i64 (x.e.f 5), .int .i64 (x.e.f 6), .int .i64 (x.e.f 7), .slice x.e.a x.e.l.length x.e.cap] 39)) := (Off.refl _ wr).alloc _
            generalize hq : wr.heap.size = q9 at Cq9 ⊢
            have HQL : Hid (wr.heap.size ≤ q9) := by show _ ≤ _; omega
            generalize hv : wr.alloc (.cells #[.int .i64 x.node, .string x.e.key, .int .i64 (x.e.f 0), .int .i64 (x.e.f 1), .int .i64 (x.e.f 2), .int .i64 (x.e.f 3), .int .i64 (x.e.f 4), .int .i64 (x.e.f 5), .int .i64 (x.e.f 6), .int .i64 (x.e.f 7), .slice x.e.a x.e.l.length x.e.cap] 39) = V9 at Cq9 OA ⊢
            clear hq hv
            clear k0 k1 k2 k3 k4 k5 k6 k7 k8 k9 k10 hix
            obtain ⟨x0, x1, x2, x3, x4, x5, x6, x7, x8, x9, x10⟩ := cel11 Cq9
            have HO9 : Hid _ := HO.out.trans OA (fun _ _ h => h)
            have HOT9 : Hid _ := HOT.out.trans OA (fun _ _ h => h.elim)
            have HRX9 : Hid _ := HRX.out.off OA
            have HS9 : Hid _ := HS.out.free OA
            have HLW : Hid (wr.heap.size ≤ V9.heap.size) := OA.size
            clear OA Cq9
            have HXM : Hid (x.abs ∈ absH xs) := by show _ ∈ _; rw [HXS.out, ← HYS.out]; exact List.mem_map.2 ⟨x, List.mem_of_getElem? HX.out, rfl⟩
            have HNX : Hid (Nrm x.e.f) := HS.out.ok.nrm x.abs HXM.out
            have HAG : Hid (hpR (absH xs) x.abs = ⟨absH xs, false, 0⟩) := put_again HS.out.ok HXM.out
            go_wp2_with fail
            clear x0 x1 x2 x3 x4 x5 x6 x7 x8 x9 x10
            refine (hput_any D p xs x V9 HS9.out HRX9.out HNX.out).mono ?_
            rw [HAG.out]
            rintro e w3 ⟨rfl, D', xs', hs', hx', o3, hd'⟩
            have HS3 : Hid _ := hs'
            have HX3 : Hid (absH xs' = absH zs) := by show _ = _; rw [hx']; exact HXS.out
            have HO3 : Hid (Off (fun _ => False) W1 w3) := HO9.out.trans o3 (fun i hi e => by have := HD.out i e; omega)
            have HOT3 : Hid (Off (fun c => c < N0) w5 w3) := HOT9.out.trans o3 (fun i hi e => by rcases HDN.out i e with k | k <;> omega)
            have HD3 : Hid (∀ c, D' c → W1.heap.size ≤ c) := fun c hc => by rcases hd' c hc with k | k; exact HD.out c k; have h1 := HLW.out; have h2 := HO.out.size; omega
            have HDN3 : Hid (∀ c, D' c → c < N0 ∨ w5.heap.size ≤ c) := fun c hc => by rcases hd' c hc with k | k; exact HDN.out c k; have h1 := HLW.out; have h2 := HOT.out.size; exact .inr (by omega)
            clear hs' hd' o3 hx'
            go_wp2_with fail
            go_roundw
            case rel => exact ⟨m + 1, D', xs', by go_num, by omega, HS3.out, HX3.out, HD3.out, HDN3.out, HO3.out, HOT3.out⟩
            case measure => simp [intOf]; omega
          · obtain rfl : m = ys.length := by omega
            have e1 : decide ((ys.length : Int) < (ys.length : Int)) = false := decide_eq_false (by omega)
            have e2 : decide (ys.length < ys.length) = false := decide_eq_false (by omega)
            go_wp2_with fail
            clear e1 e2
            go_loopw [13, 64] (fun z y wr => ∃ (m gn : Nat) (D : Nat → Prop) (xs : List H), z = .int .i64 (gn : Int) ∧ y = .int .i64 (m : Int) ∧ m ≤ ys.length ∧ gn = g3 f (cont l) (absH zs) m ∧ HSt D p xs wr ∧ absH xs = s3 f (cont l) (absH zs) m ∧ (∀ c, D c → W1.heap.size ≤ c) ∧ (∀ c, D c → c < N0 ∨ w5.heap.size ≤ c) ∧ Off (fun _ => False) W1 wr ∧ Off (fun c => c < N0) w5 wr) (fun _ y _ => (ys.length - intOf y).toNat)
            case atStart => exact ⟨0, 0, D, xs, rfl, rfl, by omega, (g3_zero _ _ _).symm, HS.out, by rw [s3_zero]; exact HXS.out, HD.out, HDN.out, HO.out, HOT.out⟩
            case round =>
              clear HS HXS HD HDN HO HOT xs D
              obtain ⟨m, gn, D, xs, rfl, rfl, hm, hgn, hs, hxs, hd, hdn, O, OT⟩ := hrel
              have hyl := HYL.out
              have HG : Hid _ := hgn
              have HGL : Hid (gn ≤ m) := by show _ ≤ _; rw [hgn]; exact g3_le _ _ _ _
              have HS : Hid _ := hs
              have HXS : Hid _ := hxs
              have HD : Hid _ := hd
              have HDN : Hid _ := hdn
              have HO : Hid _ := O
              have HOT : Hid _ := OT
              clear hgn hs hxs hd hdn O OT
              by_cases hlt : m < ys.length
              · have e1 : decide ((m : Int) < (ys.length : Int)) = true := decide_eq_true (by omega)
                have e2 : decide (m < ys.length) = true := decide_eq_true hlt
                obtain ⟨x, hx⟩ : ∃ x, ys[m]? = some x := ⟨_, List.getElem?_eq_getElem hlt⟩
                have htd := HTD.out.off HOT.out
                obtain ⟨bx, ox, rfl, kx⟩ := htd.hns.at_ m x hx
                obtain ⟨k0, k1, k2, k3, k4, k5, k6, k7, k8, k9, k10⟩ := kx.cells
                have hix := idx_hins hlt
                have HRX : Hid _ := htd.row x (List.mem_of_getElem? hx)
                have HX : Hid _ := hx
                clear kx htd hx
                go_upto_region 21 with fail
                have Cq9 := Cel.new wr 39 #[.int .i64 x.node, .string x.e.key, .int .i64 (x.e.f 0), .int .i64 (x.e.f 1), .int .i64 (x.e.f 2), .int .i64 (x.e.f 3), .int .i64 (x.e.f 4), .int .i64 (x.e.f 5), .int .i64 (x.e.f 6), .int .i64 (x.e.f 7), .slice x.e.a x.e.l.length x.e.cap]
                have OA : Off (fun _ => False) wr (wr.alloc (.cells #[.int .i64 x.node, .string x.e.key, .int .i64 (x.e.f 0), .int .i64 (x.e.f 1), .int .i64 (x.e.f 2), .int .i64 (x.e.f 3), .int .i64 (x.e.f 4), .int .i64 (x.e.f 5), .int .i64 (x.e.f 6), .int .i64 (x.e.f 7), .slice x.e.a x.e.l.length x.e.cap] 39)) := (Off.refl _ wr).alloc _
                generalize hq : wr.heap.size = q9 at Cq9 ⊢
                have HQL : Hid (wr.heap.size ≤ q9) := by show _ ≤ _; omega
                generalize hv : wr.alloc (.cells #[.int .i64 x.node, .string x.e.key, .int .i64 (x.e.f 0), .int .i64 (x.e.f 1), .int .i64 (x.e.f 2), .int .i64 (x.e.f 3), .int .i64 (x.e.f 4), .int .i64 (x.e.f 5), .int .i64 (x.e.f 6), .int .i64 (x.e.f 7), .slice x.e.a x.e.l.length x.e.cap] 39) = V9 at Cq9 OA ⊢
                clear hq hv
                clear k0 k1 k2 k3 k4 k5 k6 k7 k8 k9 k10 hix
                have HO9 : Hid _ := HO.out.trans OA (fun _ _ h => h)
                have HOT9 : Hid _ := HOT.out.trans OA (fun _ _ h => h.elim)
                have HRX9 : Hid _ := HRX.out.off OA
                have HS9 : Hid _ := HS.out.free OA
                have HC9 : Hid _ := Cq9
                have HQ9 : Hid (∀ c, D c → c ≠ q9) := fun c hc e => by have h1 := HS.out.dlt c hc; have h2 := HQL.out; omega
                have HWV : Hid (wr.heap.size ≤ V9.heap.size) := OA.size
                clear OA Cq9
                go_wp2_with fail
                refine (hlen_any D p xs V9 HS9.out).mono ?_
                rintro e w' ⟨rfl, hw⟩
                rw [hw]
                clear hw w'
                obtain ⟨x0, x1, x2, x3, x4, x5, x6, x7, x8, x9, x10⟩ := cel11 HC9.out
                obtain ⟨r0, r1, r2, r3, r4, r5, r6, r7, r8⟩ := cel9 (HCS.out.off HO9.out (fun h => h))
                have hgetX := absH_get HX.out
                rw [HYS.out] at hgetX
                have HGX : Hid _ := hgetX
                clear hgetX
                have HB : Hid (drpB (absH xs) (x.node, x.e.key) f (cont l) = lq f (cont l) x.abs) := by show _ = _; rw [HXS.out]; exact s3_drpB f (cont l) HOK.out.sor HGX.out
                have HT : Hid (drpT (absH xs) (x.node, x.e.key) f (cont l) = s3 f (cont l) (absH zs) (m + 1)) := by show _ = _; rw [HXS.out]; exact s3_step f (cont l) HOK.out.sor HGX.out
                have HGS : Hid (g3 f (cont l) (absH zs) (m + 1) = gn + (if lq f (cont l) x.abs = true then 1 else 0)) := by show _ = _; rw [g3_step f (cont l) HGX.out, HG.out]
                have HLQ : Hid (lq f (cont l) x.abs = leqS x.e.f f (cont x.e.l) (cont l)) := rfl
                generalize lq f (cont l) x.abs = b at HB HGS HLQ
                go_wp2_with fail
                clear x0 x1 x2 x3 x4 x5 x6 x7 x8 x9 x10 r0 r1 r2 r3 r4 r5 r6 r7 r8
                refine (hdrop_any D p xs x.node x.e.key f sa sc l V9 HS9.out (HRS.out.off HO9.out)).mono ?_
                rw [HB.out, HT.out]
                rintro e w3 ⟨rfl, xs', hs', hx', o3⟩
                have HS3 : Hid _ := hs'
                have HX3 : Hid _ := hx'
                have HO3 : Hid (Off (fun _ => False) W1 w3) := HO9.out.trans o3 (fun i hi e => by have := HD.out i e; omega)
                have HOT3 : Hid (Off (fun c => c < N0) w5 w3) := HOT9.out.trans o3 (fun i hi e => by rcases HDN.out i e with k | k <;> omega)
                have HC3 : Hid _ := HC9.out.off o3 (fun e => HQ9.out _ e rfl)
                have HRX3 : Hid (Row w3 x.e.a x.e.cap x.e.l) := (HTD.out.off HOT3.out).row x (List.mem_of_getElem? HX.out)
                have HLX : Hid (b = false → xs'.length = xs.length) := fun e => by
                  have h1 := congrArg List.length hx'
                  have h2 := congrArg List.length HXS.out
                  have h3 := s3_same HGX.out (HLQ.out.symm.trans e)
                  rw [absH_len] at h1 h2
                  rw [h1, h2]
                  exact h3
                clear hs' hx' o3
                obtain ⟨x0, x1, x2, x3, x4, x5, x6, x7, x8, x9, x10⟩ := cel11 HC3.out
                obtain ⟨r0, r1, r2, r3, r4, r5, r6, r7, r8⟩ := cel9 (HCS.out.off HO3.out (fun h => h))
                go_wp2_with fail
                clear x0 x1 x2 x3 x4 x5 x6 x7 x8 x9 x10 r0 r1 r2 r3 r4 r5 r6 r7 r8
                refine (gleq_any x.e.f f x.e.a sa x.e.cap sc x.e.l l _ HRX3.out (HRS.out.off HO3.out)).mono ?_
                rw [← HLQ.out]
                rintro e w4 ⟨rfl, o4⟩
                have HS4 : Hid _ := HS3.out.free o4
                have HO4 : Hid _ := HO3.out.trans o4 (fun _ _ h => h)
                have HOT4 : Hid _ := HOT3.out.trans o4 (fun _ _ h => h.elim)
                clear o4
                have hbn : (b != b) = false := by cases b <;> rfl
                cases b
                · have HGF : Hid (gn = g3 f (cont l) (absH zs) (m + 1)) := by show _ = _; rw [HGS.out]; rfl
                  go_wp2_with fail
                  refine (hlen_any D p xs' w4 HS4.out).mono ?_
                  rintro e w' ⟨rfl, hw⟩
                  rw [hw]
                  clear hw w'
                  have hl1 : ((xs'.length : Int) != (xs.length : Int)) = false := by rw [HLX.out (by first | rfl | trivial)]; simp
                  go_wp2_with fail
                  go_roundw
                  case rel => exact ⟨m + 1, gn, D, xs', rfl, by go_num, by omega, HGF.out, HS4.out, HX3.out, HD.out, HDN.out, HO4.out, HOT4.out⟩
                  case measure => simp [intOf]; omega
                · have HGF : Hid (gn + 1 = g3 f (cont l) (absH zs) (m + 1)) := by show _ = _; rw [HGS.out]; rfl
                  have hgl := HGL.out
                  have hyl := HYL.out
                  go_wp2_with fail
                  refine (hlen_any D p xs' w4 HS4.out).mono ?_
                  rintro e w' ⟨rfl, hw⟩
                  rw [hw]
                  clear hw w'
                  cases hl1 : ((xs'.length : Int) != (xs.length : Int))
                  · go_wp2_with fail
                    go_roundw
                    case rel => exact ⟨m + 1, gn + 1, D, xs', by go_num, by go_num, by omega, HGF.out, HS4.out, HX3.out, HD.out, HDN.out, HO4.out, HOT4.out⟩
                    case measure => simp [intOf]; omega
                  · go_wp2_with fail
                    go_roundw
                    case rel => exact ⟨m + 1, gn + 1, D, xs', by go_num, by go_num, by omega, HGF.out, HS4.out, HX3.out, HD.out, HDN.out, HO4.out, HOT4.out⟩
                    case measure => simp [intOf]; omega
              · obtain rfl : m = ys.length := by omega
                have e1 : decide ((ys.length : Int) < (ys.length : Int)) = false := decide_eq_false (by omega)
                have e2 : decide (ys.length < ys.length) = false := decide_eq_false (by omega)
                go_wp2_with fail
                clear e1 e2
                refine (hall_any D p xs wr HS.out).mono ?_
                rintro e w6 ⟨a2, c2, us, rfl, hus, own6, row6, ter6, new6, o6⟩
                obtain ⟨N1, hN1⟩ : ∃ N1, N1 = wr.heap.size := ⟨_, rfl⟩
                have HTU : Hid (Tlr N1 a2 c2 us w6) := by rw [hN1]; exact ⟨own6.hns, new6, row6, ter6⟩
                have HUS : Hid (absH us = (absH zs).filter (fun x => !lq f (cont l) x)) := by show _ = _; rw [hus, HXS.out, ← s3_end]; congr 1; have := congrArg List.length HYS.out; rw [absH_len] at this; exact this
                have HOKU : Hid (OkS (absH us)) := by rw [hus]; exact HS.out.ok
                have HS6 : Hid _ := HS.out.free o6
                have HX6 : Hid (absH xs = absH us) := hus.symm
                have HO6 : Hid _ := HO.out.trans o6 (fun _ _ h => h)
                have HDN6 : Hid (∀ c, D c → c < N1 ∨ w6.heap.size ≤ c) := fun c hc => by rw [hN1]; exact .inl (HS.out.dlt c hc)
                have HGE : Hid (gn + us.length = ys.length) := by
                  have h1 : g3 f (cont l) (absH zs) (absH zs).length + (absH us).length = (absH zs).length := by rw [HUS.out]; exact g3_end f (cont l) (absH zs)
                  have h2 : (absH zs).length = ys.length := by rw [← absH_len ys]; exact congrArg List.length HYS.out.symm
                  rw [h2, absH_len, ← HG.out] at h1
                  exact h1
                clear hus own6 row6 ter6 new6 o6 hN1 HOT HDN HO HXS HS HTD
                have hgl := HGL.out
                have hyl := HYL.out
                have hge := HGE.out
                clear hge
                have HUL : Hid (us.length ≤ 64) := by have := HOKU.out.few; rwa [absH_len] at this
                go_wp2_with fail
                go_loopw [13, 102] (fun z y wr => ∃ (m gn' : Nat) (xs : List H), y = .int .i64 (m : Int) ∧ z = .int .i64 (gn' : Int) ∧ m ≤ us.length ∧ gn' = gn + m ∧ HSt D p xs wr ∧ absH xs = (absH us).drop m ∧ Off (fun _ => False) W1 wr ∧ Off (fun c => c < N1) w6 wr) (fun _ y _ => (us.length - intOf y).toNat)
                case atStart => exact ⟨0, gn, _, rfl, rfl, by omega, rfl, HS6.out, HX6.out, HO6.out, Off.refl _ _⟩
                case round =>
                  clear HS6 HX6 HO6 xs
                  obtain ⟨m, gn', xs, rfl, rfl, hm, hgn, hs, hxs, O, OT⟩ := hrel
                  have HG4 : Hid _ := hgn
                  have hul := HUL.out
                  have hgl4 : gn' ≤ 200 := by omega
                  have HS : Hid _ := hs
                  have HXS : Hid _ := hxs
                  have HO : Hid _ := O
                  have HOT : Hid _ := OT
                  clear hgn hs hxs O OT
                  by_cases hlt : m < us.length
                  · have e1 : decide ((m : Int) < (us.length : Int)) = true := decide_eq_true (by omega)
                    have e2 : decide (m < us.length) = true := decide_eq_true hlt
                    obtain ⟨x, hx⟩ : ∃ x, us[m]? = some x := ⟨_, List.getElem?_eq_getElem hlt⟩
                    have htd := HTU.out.off HOT.out
                    obtain ⟨bx, ox, rfl, kx⟩ := htd.hns.at_ m x hx
                    obtain ⟨k0, k1, k2, k3, k4, k5, k6, k7, k8, k9, k10⟩ := kx.cells
                    have hix := idx_hins hlt
                    have HRX : Hid _ := htd.row x (List.mem_of_getElem? hx)
                    have HX : Hid _ := hx
                    clear kx htd hx
                    go_upto_region 31 with fail
                    have Cq9 := Cel.new wr 39 #[.int .i64 x.node, .string x.e.key, .int .i64 (x.e.f 0), .int .i64 (x.e.f 1), .int .i64 (x.e.f 2), .int .i64 (x.e.f 3), .int .i64 (x.e.f 4), .int .i64 (x.e.f 5), .int .i64 (x.e.f 6), .int .i64 (x.e.f 7), .slice x.e.a x.e.l.length x.e.cap]
                    have OA : Off (fun _ => False) wr (wr.alloc (.cells #[.int .i64 x.node, .string x.e.key, .int .i64 (x.e.f 0), .int .i64 (x.e.f 1), .int .i64 (x.e.f 2), .int .i64 (x.e.f 3), .int .i64 (x.e.f 4), .int .i64 (x.e.f 5), .int .i64 (x.e.f 6), .int .i64 (x.e.f 7), .slice x.e.a x.e.l.length x.e.cap] 39)) := (Off.refl _ wr).alloc _
                    generalize hq : wr.heap.size = q9 at Cq9 ⊢
                    have HQL : Hid (wr.heap.size ≤ q9) := by show _ ≤ _; omega
                    generalize hv : wr.alloc (.cells #[.int .i64 x.node, .string x.e.key, .int .i64 (x.e.f 0), .int .i64 (x.e.f 1), .int .i64 (x.e.f 2), .int .i64 (x.e.f 3), .int .i64 (x.e.f 4), .int .i64 (x.e.f 5), .int .i64 (x.e.f 6), .int .i64 (x.e.f 7), .slice x.e.a x.e.l.length x.e.cap] 39) = V9 at Cq9 OA ⊢
                    clear hq hv
                    clear k0 k1 k2 k3 k4 k5 k6 k7 k8 k9 k10 hix
                    obtain ⟨x0, x1, x2, x3, x4, x5, x6, x7, x8, x9, x10⟩ := cel11 Cq9
                    have HO9 : Hid _ := HO.out.trans OA (fun _ _ h => h)
                    have HOT9 : Hid _ := HOT.out.trans OA (fun _ _ h => h.elim)
                    have HRX9 : Hid _ := HRX.out.off OA
                    have HS9 : Hid _ := HS.out.free OA
                    clear OA Cq9
                    have HB : Hid (drpB (absH xs) (x.node, x.e.key) x.e.f (cont x.e.l) = true) := by show _ = _; rw [HXS.out]; exact d4_B HOKU.out (absH_get HX.out)
                    have HT : Hid (drpT (absH xs) (x.node, x.e.key) x.e.f (cont x.e.l) = (absH us).drop (m + 1)) := by show _ = _; rw [HXS.out]; exact d4_T HOKU.out (absH_get HX.out)
                    go_wp2_with fail
                    clear x0 x1 x2 x3 x4 x5 x6 x7 x8 x9 x10
                    refine (hdrop_any D p xs x.node x.e.key x.e.f x.e.a x.e.cap x.e.l V9 HS9.out HRX9.out).mono ?_
                    rw [HB.out, HT.out]
                    rintro e w3 ⟨rfl, xs', hs', hx', o3⟩
                    have HS3 : Hid _ := hs'
                    have HX3 : Hid _ := hx'
                    have HO3 : Hid (Off (fun _ => False) W1 w3) := HO9.out.trans o3 (fun i hi e => by have := HD.out i e; omega)
                    have HOT3 : Hid (Off (fun c => c < N1) w6 w3) := HOT9.out.trans o3 (fun i hi e => by rcases HDN6.out i e with k | k <;> omega)
                    clear hs' hx' o3
                    go_wp2_with fail
                    go_roundw
                    case rel => exact ⟨m + 1, gn' + 1, xs', by go_num, by go_num, by omega, by have := HG4.out; show _ = _; omega, HS3.out, HX3.out, HO3.out, HOT3.out⟩
                    case measure => simp [intOf]; omega
                  · obtain rfl : m = us.length := by omega
                    have e1 : decide ((us.length : Int) < (us.length : Int)) = false := decide_eq_false (by omega)
                    have e2 : decide (us.length < us.length) = false := decide_eq_false (by omega)
                    have hge : ((gn' : Int) == (ys.length : Int)) = true := by have h1 := HG4.out; have h2 := HGE.out; rw [beq_iff_eq]; omega
                    have HZL : Hid (((xs.length : Int) == 0) = true) := by have h := congrArg List.length HXS.out; rw [absH_len, List.length_drop, absH_len] at h; show _ = true; rw [beq_iff_eq]; omega
                    go_wp2_with fail
                    refine (hlen_any D p xs _ HS.out).mono ?_
                    rintro e w' ⟨rfl, hw⟩
                    rw [hw]
                    clear hw w'
                    have hzl := HZL.out
                    go_wp2_with fail
                    refine (awake_any _).mono ?_
                    rintro e va ⟨rfl, oa⟩
                    go_wp2_with fail
                    go_ret
                    exact ⟨rfl, (HO1.out.trans HO.out (fun _ _ h => h)).trans oa (fun _ _ h => h)⟩
  · cases b
    · go_wp2_with fail
      refine (awake_any _).mono ?_
      rintro e va ⟨rfl, oa⟩
      go_wp2_with fail
      go_ret
      exact ⟨rfl, HO1.out.trans oa (fun _ _ h => h)⟩
    · have h20 : ¬ l.length ≤ 20 := fun e => hl ⟨rfl, e⟩
      have d1 : decide ((20 : Int) < (l.length : Int)) = true := decide_eq_true (by omega)
      have d2 : decide (20 < l.length) = true := decide_eq_true (by omega)
      clear hl
      go_wp2_with fail
      refine (awake_any _).mono ?_
      rintro e va ⟨rfl, oa⟩
      go_wp2_with fail
      go_ret
      exact ⟨rfl, HO1.out.trans oa (fun _ _ h => h)⟩
end Go.Proofs.Ytfhacfedklaaiaa
