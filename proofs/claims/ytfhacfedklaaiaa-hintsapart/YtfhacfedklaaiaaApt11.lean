/- The walk of HintsApart. -/
import Derived.Test.YtfhacfedklaaiaaArg11
import Derived.Test.YtfhacfedklaaiaaSms11
namespace Go.Proofs.Ytfhacfedklaaiaa
open Go.RowKit

/-- The hints of one node. -/
def onN (node : Int) (X : List HK) : List HK := X.filter fun h => decide (h.node = node)
theorem on_sor {node : Int} {X : List HK} (h : Sor HK.nk X) : Sor HK.nk (onN node X) := List.Pairwise.sublist List.filter_sublist h
theorem mem_on {node : Int} {X : List HK} {x : HK} : x ∈ onN node X ↔ x ∈ X ∧ x.node = node := by
  unfold onN
  rw [List.mem_filter, decide_eq_true_eq]
theorem on_put {node : Int} {X : List HK} (h : Sor HK.nk X) {x : HK} (hx : x.node = node) : onN node (putG HK.nk x X) = putG HK.nk x (onN node X) := by
  refine sor_ext HK.nk (on_sor (sor_putG HK.nk h)) (sor_putG HK.nk (on_sor h)) (fun z => ?_)
  rw [mem_on, mem_putG, mem_putG, mem_on]
  constructor
  · rintro ⟨e | ⟨h1, h2⟩, h3⟩
    · exact .inl e
    · exact .inr ⟨⟨h1, h3⟩, h2⟩
  · rintro (rfl | ⟨⟨h1, h3⟩, h2⟩)
    · exact ⟨.inl rfl, hx⟩
    · exact ⟨.inr ⟨h1, h2⟩, h3⟩
theorem on_other {node : Int} {X : List HK} (h : Sor HK.nk X) {x : HK} (hx : x.node ≠ node) : onN node (putG HK.nk x X) = onN node X := by
  refine sor_ext HK.nk (on_sor (sor_putG HK.nk h)) (on_sor h) (fun z => ?_)
  rw [mem_on, mem_putG, mem_on]
  constructor
  · rintro ⟨rfl | ⟨h1, h2⟩, h3⟩
    · exact absurd h3 hx
    · exact ⟨h1, h3⟩
  · rintro ⟨h1, h3⟩
    refine ⟨.inr ⟨h1, fun e => hx ?_⟩, h3⟩
    rw [← h3]
    exact (congrArg Prod.fst e).symm
theorem on_fnd {node : Int} {X : List HK} (h : Sor HK.nk X) {k : NK} (hk : k.1 = node) : fndG HK.nk k (onN node X) = fndG HK.nk k X := by
  cases e : fndG HK.nk k X with
  | none =>
    rw [fnd_none] at e ⊢
    exact fun x hx => e x (mem_on.1 hx).1
  | some y =>
    obtain ⟨h1, h2⟩ := (fnd_some HK.nk h).1 e
    exact (fnd_some HK.nk (on_sor h)).2 ⟨mem_on.2 ⟨h1, by rw [← hk, ← h2]; rfl⟩, h2⟩
theorem on_len {node : Int} {X : List HK} : (onN node X).length ≤ X.length := List.length_filter_le _ _
/-- One more hint, where there is room. -/
theorem on_step {node : Int} {X : List HK} (ok : OkS X) (hl : X.length < 64) (h : HK) : (h.node = node → onN node (hpR X h).x = (hpR (onN node X) h).x) ∧ (h.node ≠ node → onN node (hpR X h).x = onN node X) := by
  rcases hpR_ways (X := X) h with ⟨ho, e⟩ | ⟨-, -, hn, -⟩ | ⟨ho, hf, hn, e⟩ | ⟨u, ho, hf, e⟩
  · rw [e]
    exact ⟨fun _ => by rw [hpR_arg ho], fun _ => rfl⟩
  · omega
  · rw [e]
    refine ⟨fun hx => ?_, fun hx => on_other ok.sor hx⟩
    have hf2 : fndG HK.nk h.nk (onN node X) = none := by rw [on_fnd ok.sor hx]; exact hf
    rw [hpR_new ho hf2 (by have := on_len (node := node) (X := X); omega)]
    exact on_put ok.sor hx
  · rw [e]
    refine ⟨fun hx => ?_, fun hx => on_other ok.sor (x := jnH u h) hx⟩
    have hf2 : fndG HK.nk h.nk (onN node X) = some u := by rw [on_fnd ok.sor hx]; exact hf
    rw [hpR_old ho hf2]
    exact on_put ok.sor (x := jnH u h) hx
theorem hp_len {X : List HK} (ok : OkS X) (h : HK) : (hpR X h).x.length ≤ X.length + 1 := by
  rcases hpR_ways (X := X) h with ⟨ho, e⟩ | ⟨-, -, hn, e⟩ | ⟨ho, hf, hn, e⟩ | ⟨u, ho, hf, e⟩
  · rw [e]; show X.length ≤ _; omega
  · rw [e]; show X.length ≤ _; omega
  · rw [e]; show (putG HK.nk h X).length ≤ _; rw [put_len1 ok.sor hf]; omega
  · rw [e]; show (putG HK.nk (jnH u h) X).length ≤ _; rw [put_len ok.sor (x := jnH u h) (u := u) hf]; omega
theorem for_len (X : List HK) (node : Int) : (forK X node).length ≤ X.length := by
  unfold forK
  rw [List.length_map]
  exact List.length_filter_le _ _
theorem for_on {node : Int} {X : List HK} : forK (onN node X) node = forK X node := by
  unfold forK onN
  rw [List.filter_filter]
  simp
theorem Ent.off {w w' : World} {a : Option Addr} {cap : Nat} {es : List E} (h : Ent w a cap es) (o : Off (fun _ => False) w w') : Ent w' a cap es :=
  ⟨h.len, h.bound, fun i e hi => by
    obtain ⟨b, off, ea, h1⟩ := h.at_ i e hi
    exact ⟨b, off, ea, cells_off o h1⟩⟩
set_option maxRecDepth 100000 in
set_option maxHeartbeats 4000000 in
theorem apart_walk (a : Option Addr) (cap : Nat) (cs : List C) (node : Int) (w : World) (hE : Cas w a cap cs) (hnr : ∀ e ∈ cs, Nrm e.h.e.f ∧ Nrm e.f) (_ : -9223372036854775808 ≤ node ∧ node ≤ 9223372036854775807) : Calls Try.prog 7 #[.slice a cs.length cap, .int .i64 node] w fun e w' => e = .returned (.bool true) ∧ Off (fun _ => False) w w' := by
  have hnot := not_any
  have HE : Hid _ := hE
  have HNR : Hid _ := hnr
  have hbb : cs.length ≤ 9223372036854775807 := Nat.le_trans hE.len hE.bound
  clear hE hnr
  go_enter Try.func7, Try.ntmps7
  go_wp2_with fail
  refine (light_any a cap cs w HE.out).mono ?_
  rintro e w1 ⟨b, rfl, -, o1⟩
  have HO1 : Hid _ := o1
  clear o1
  by_cases hl : b = true ∧ cs.length ≤ 60
  · obtain ⟨rfl, h60⟩ := hl
    have H60 : Hid (cs.length ≤ 60) := h60
    have d1 : decide ((60 : Int) < (cs.length : Int)) = false := decide_eq_false (by omega)
    have d2 : decide (60 < cs.length) = false := decide_eq_false (by omega)
    go_wp2_with fail
    refine (hnew_any w1).mono ?_
    rintro e w2 ⟨p, rfl, hs, hp, o2⟩
    have HSA0 : Hid _ := hs
    have HP : Hid _ := hp
    have HO2 : Hid _ := o2
    clear hs hp o2 d1 d2
    go_wp2_with fail
    refine (hnew_any w2).mono ?_
    rintro e w3 ⟨q, rfl, hs, hq, o3⟩
    have HSB0 : Hid _ := hs
    have HQ : Hid _ := hq
    have HSA1 : Hid _ := HSA0.out.free o3
    have HPQ : Hid (p < w2.heap.size) := HSA0.out.lt
    have HO3 : Hid _ := (HO1.out.trans HO2.out (fun _ _ h => h)).trans o3 (fun _ _ h => h)
    clear hs hq o3
    go_wp2_with fail
    go_loopw [22] (fun y wr => ∃ (n : Nat) (Da Db : Nat → Prop) (xs ys : List H), y = .int .i64 (n : Int) ∧ n ≤ cs.length ∧ HSt Da p xs wr ∧ HSt Db q ys wr ∧ onN node (absH xs) = absH ys ∧ xs.length ≤ n ∧ (∀ c, Da c → w.heap.size ≤ c) ∧ (∀ c, Db c → w.heap.size ≤ c) ∧ (∀ c, Da c → ¬ Db c) ∧ Off (fun _ => False) w wr) (fun y _ => (cs.length - intOf y).toNat)
    case atStart => exact ⟨0, _, _, [], [], rfl, by omega, HSA1.out, HSB0.out, rfl, by simp, fun c hc => by have h1 := HP.out; have h2 := HO1.out.size; omega, fun c hc => by have h1 := HQ.out; have h2 := HO1.out.size; have h3 := HO2.out.size; omega, fun c h1 h2 => by have h3 := HPQ.out; have h4 := HQ.out; omega, HO3.out⟩
    case round =>
      obtain ⟨n, Da, Db, xs, ys, rfl, hn, hsa, hsb, hon, hl, hfa, hfb, hdis, O⟩ := hrel
      have HSA : Hid _ := hsa
      have HSB : Hid _ := hsb
      have HON : Hid _ := hon
      have HL : Hid _ := hl
      have HFA : Hid _ := hfa
      have HFB : Hid _ := hfb
      have HDI : Hid _ := hdis
      have HO : Hid _ := O
      clear hsa hsb hon hl hfa hfb hdis O
      by_cases hlt : n < cs.length
      · have e1 : decide ((n : Int) < (cs.length : Int)) = true := decide_eq_true (by omega)
        have e2 : decide (n < cs.length) = true := decide_eq_true hlt
        obtain ⟨x, hx⟩ : ∃ x, cs[n]? = some x := ⟨_, List.getElem?_eq_getElem hlt⟩
        have hE := HE.out.off HO.out
        obtain ⟨bx, ox, rfl, kx, rx, sx⟩ := hE.at_ n x hx
        have HRX : Hid _ := rx
        have HSX : Hid _ := sx
        clear rx sx
        clear hE
        have hxm := List.mem_of_getElem? hx
        have HNX : Hid (Nrm x.h.e.f) := (HNR.out x hxm).1
        clear hxm
        have HRW : Hid (Row w x.h.e.a x.h.e.cap x.h.e.l) := by obtain ⟨_, _, _, _, r, _⟩ := HE.out.at_ n x hx; exact r
        clear hx
        go_upto_region 6 with fail
        refine wp_region_list ?_
        refine wpList_exec 24 rfl rfl (exec_idx10 rfl (idx_calls hlt _ _ _ _)) ?_
        simp only [Act.put, List.setIfInBounds_toArray, List.set_cons_zero, List.set_cons_succ]
        refine wpList_exec 25 rfl rfl (exec_load rfl (run_loadAt_mid wr bx (ox + n * 21) 41 (ccs x) _ kx Try.underlying41 rfl (by kernel_rfl))) ?_
        simp only [Act.put, List.setIfInBounds_toArray, List.set_cons_zero, List.set_cons_succ]
        refine wpList_exec 8 rfl rfl (exec_alloc rfl (allocC wr)) ?_
        simp only [Act.put, List.setIfInBounds_toArray, List.set_cons_zero, List.set_cons_succ]
        refine wpList_skip rfl rfl (exec_store rfl (storeC wr x)) ?_
        have Cq8 := Cel.new wr 41 (ccs x).toArray
        have OA : Off (fun _ => False) wr (wr.alloc (.cells (ccs x).toArray 41)) := (Off.refl _ wr).alloc _
        generalize hq : wr.heap.size = q8 at Cq8 ⊢
        generalize hv : wr.alloc (.cells (ccs x).toArray 41) = V8 at Cq8 OA ⊢
        have HQ8 : Hid (wr.heap.size ≤ q8) := by show _ ≤ _; omega
        clear hq hv kx
        have HC8 : Hid _ := Cq8
        obtain ⟨x0, x1, x2, x3, x4, x5, x6, x7, x8, x9, x10, x11, x12, x13, x14, x15, x16, x17, x18, x19, x20⟩ := cel21 (w := V8) Cq8
        have HO8 : Hid _ := HO.out.trans OA (fun _ _ h => h)
        have HRX8 : Hid _ := HRX.out.off OA
        have HSA8 : Hid _ := HSA.out.free OA
        have HSB8 : Hid _ := HSB.out.free OA
        have HLW : Hid (wr.heap.size ≤ V8.heap.size) := OA.size
        clear OA Cq8
        go_wp2_with fail
        clear x0 x1 x2 x3 x4 x5 x6 x7 x8 x9 x10 x11 x12 x13 x14 x15 x16 x17 x18 x19 x20
        refine (hput_any Da p xs x.h V8 HSA8.out HRX8.out HNX.out).mono ?_
        generalize (hpR (absH xs) x.h.abs).ch = r1
        generalize (hpR (absH xs) x.h.abs).er = r2
        rintro e w3 ⟨rfl, Da', xs', hs', hx', o3, hd'⟩
        have HSA3 : Hid _ := hs'
        have HX3 : Hid _ := hx'
        have HSB3 : Hid _ := HSB8.out.off o3 (fun c _ hb ha => HDI.out c ha hb)
        have HC3 : Hid _ := HC8.out.off o3 (fun ha => by have h1 := HSA.out.dlt _ ha; have h2 := HQ8.out; omega)
        have HO3 : Hid (Off (fun _ => False) w w3) := HO8.out.trans o3 (fun i hi e => by have := HFA.out i e; omega)
        have HFA3 : Hid (∀ c, Da' c → w.heap.size ≤ c) := fun c hc => by rcases hd' c hc with k | k; exact HFA.out c k; have h1 := HLW.out; have h2 := HO.out.size; omega
        have HDI3 : Hid (∀ c, Da' c → ¬ Db c) := fun c hc hb => by rcases hd' c hc with k | k; exact HDI.out c k hb; have h1 := HSB.out.dlt c hb; have h2 := HLW.out; omega
        have HL3 : Hid (xs'.length ≤ n + 1) := by have h1 := hp_len HSA.out.ok x.h.abs; have h2 := HL.out; rw [← hx', absH_len, absH_len] at h1; show _ ≤ _; omega
        have HST := on_step (node := node) HSA.out.ok (by rw [absH_len]; have := HL.out; have := H60.out; omega) x.h.abs
        have HST1 : Hid _ := HST
        clear HST hs' hx' hd' o3
        obtain ⟨x0, x1, x2, x3, x4, x5, x6, x7, x8, x9, x10, x11, x12, x13, x14, x15, x16, x17, x18, x19, x20⟩ := cel21 (w := w3) HC3.out
        by_cases hnn : x.h.node = node
        · have d1 : (x.h.node == node) = true := by rw [hnn]; simp
          have HON3 : Hid (absH xs' = absH xs' ∧ onN node (absH xs') = (hpR (absH ys) x.h.abs).x) := ⟨rfl, by rw [HX3.out, HST1.out.1 hnn, HON.out]⟩
          clear hnn
          go_wp2_with fail
          clear x0 x1 x2 x3 x4 x5 x6 x7 x8 x9 x10 x11 x12 x13 x14 x15 x16 x17 x18 x19 x20
          refine (hput_any Db q ys x.h w3 HSB3.out (HRW.out.off HO3.out) HNX.out).mono ?_
          have HON4 : Hid _ := HON3.out.2
          generalize (hpR (absH ys) x.h.abs).ch = r3
          generalize (hpR (absH ys) x.h.abs).er = r4
          rintro e w4 ⟨rfl, Db', ys', hs', hy', o4, hd'⟩
          have HSA4 : Hid _ := HSA3.out.off o4 (fun c _ ha hb => HDI3.out c ha hb)
          have HSB4 : Hid _ := hs'
          have HO4 : Hid (Off (fun _ => False) w w4) := HO3.out.trans o4 (fun i hi e => by have := HFB.out i e; omega)
          have HFB4 : Hid (∀ c, Db' c → w.heap.size ≤ c) := fun c hc => by rcases hd' c hc with k | k; exact HFB.out c k; have h2 := HO3.out.size; omega
          have HDI4 : Hid (∀ c, Da' c → ¬ Db' c) := fun c ha hc => by rcases hd' c hc with k | k; exact HDI3.out c ha k; have h1 := HSA3.out.dlt c ha; omega
          have HON5 : Hid (onN node (absH xs') = absH ys') := by rw [hy']; exact HON4.out
          clear hs' hy' o4 hd'
          go_wp2_with fail
          go_roundw
          case rel => exact ⟨n + 1, Da', Db', xs', ys', by go_num, by omega, HSA4.out, HSB4.out, HON5.out, HL3.out, HFA3.out, HFB4.out, HDI4.out, HO4.out⟩
          case measure => simp [intOf]; omega
        · have d1 : (x.h.node == node) = false := by rw [beq_eq_false_iff_ne]; exact hnn
          have HON3 : Hid (onN node (absH xs') = absH ys) := by show _ = _; rw [HX3.out, HST1.out.2 hnn, HON.out]
          clear hnn
          go_wp2_with fail
          go_roundw
          case rel => exact ⟨n + 1, Da', Db, xs', ys, by go_num, by omega, HSA3.out, HSB3.out, HON3.out, HL3.out, HFA3.out, HFB.out, HDI3.out, HO3.out⟩
          case measure => simp [intOf]; omega
      · obtain rfl : n = cs.length := by omega
        have e1 : decide ((cs.length : Int) < (cs.length : Int)) = false := decide_eq_false (by omega)
        have e2 : decide (cs.length < cs.length) = false := decide_eq_false (by omega)
        go_wp2_with fail
        refine (hfor_any Da p xs node wr HSA.out).mono ?_
        rintro e w3 ⟨a3, c3, es, rfl, hes, own3, row3, ter3, new3, o3⟩
        have HES : Hid _ := hes
        have HE3 : Hid _ := own3.ent
        have HR3 : Hid _ := row3
        have HSB3 : Hid _ := HSB.out.free o3
        have HO3 : Hid _ := HO.out.trans o3 (fun _ _ h => h)
        clear hes own3 row3 ter3 new3 o3
        go_wp2_with fail
        refine (hfor_any Db q ys node w3 HSB3.out).mono ?_
        rintro e w4 ⟨a4, c4, fs, rfl, hfs, own4, row4, ter4, new4, o4⟩
        have HEQ : Hid (absE es = absE fs) := by show _ = _; rw [HES.out, hfs, ← HON.out, for_on]
        have HEL : Hid (es.length ≤ 1000) := by have h1 := congrArg List.length HES.out; have h2 := HSA.out.few; have h3 := for_len (absH xs) node; rw [absE_len] at h1; rw [absH_len] at h3; show _ ≤ _; omega
        have HE4 : Hid _ := own4.ent
        have HR4 : Hid _ := row4
        have HO4 : Hid _ := o4
        have HOZ : Hid _ := HO3.out.trans o4 (fun _ _ h => h)
        clear hfs own4 row4 ter4 new4 o4
        go_wp2_with fail
        refine (sameents_any a3 a4 c3 c4 es fs w4 (HE3.out.off HO4.out) (fun e he => (HR3.out e he).off HO4.out) HE4.out HR4.out HEQ.out HEL.out).mono ?_
        rintro e w5 ⟨rfl, o5⟩
        go_wp2_with fail
        refine (awake_any _).mono ?_
        rintro e va ⟨rfl, oa⟩
        go_wp2_with fail
        go_ret
        exact ⟨rfl, (HOZ.out.trans o5 (fun _ _ h => h)).trans oa (fun _ _ h => h)⟩
  · cases b
    · go_wp2_with fail
      refine (awake_any _).mono ?_
      rintro e va ⟨rfl, oa⟩
      go_wp2_with fail
      go_ret
      exact ⟨rfl, HO1.out.trans oa (fun _ _ h => h)⟩
    · have h60 : ¬ cs.length ≤ 60 := fun e => hl ⟨rfl, e⟩
      have d1 : decide ((60 : Int) < (cs.length : Int)) = true := decide_eq_true (by omega)
      have d2 : decide (60 < cs.length) = true := decide_eq_true (by omega)
      clear hl
      go_wp2_with fail
      refine (awake_any _).mono ?_
      rintro e va ⟨rfl, oa⟩
      go_wp2_with fail
      go_ret
      exact ⟨rfl, HO1.out.trans oa (fun _ _ h => h)⟩
end Go.Proofs.Ytfhacfedklaaiaa
