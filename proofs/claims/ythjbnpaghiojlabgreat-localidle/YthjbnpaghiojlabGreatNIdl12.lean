/- Items of several texts. -/
import Derived.Test.YthjbnpaghiojlabGreatNIdp12
namespace Go.Proofs.YthjbnpaghiojlabGreat
open Go.RowKit
def lng : ByteArray := ⟨#[97, 32, 107, 101, 121, 32, 111, 102, 32, 109, 111, 114, 101, 32, 98, 121, 116, 101, 115, 32, 116, 104, 97, 110, 32, 97, 32, 107, 101, 121, 32, 109, 97, 121, 32, 104, 97, 118, 101]⟩
theorem lng_size : 32 < lng.size := by decide
set_option maxRecDepth 100000 in
set_option maxHeartbeats 8000000 in
theorem idle_walk (a : Option Addr) (cap : Nat) (cs : List C) (w : World) (hE : Cas w a cap cs) : Calls Tryz.prog 4 #[.slice a cs.length cap] w fun e w' => e = .returned (.bool true) ∧ Off (fun _ => False) w w' := by
  have hnot := not_any
  have hq := eql_sto
  have HE : Hid _ := hE
  clear hE
  go_enter Tryz.func4, Tryz.ntmps4
  go_wp2_with fail
  refine (light_any a cap cs w HE.out).mono ?_
  rintro e w1 ⟨bl, rfl, -, o1⟩
  have HO1 : Hid _ := o1
  clear o1
  cases bl
  · go_wp2_with fail
    refine (awake_any _).mono ?_
    rintro e w2 ⟨rfl, o2⟩
    have HO2 : Hid _ := HO1.out.trans o2 (fun _ _ h => h)
    clear o2
    go_wp2_with fail
    go_ret
    exact ⟨rfl, HO2.out⟩
  · go_wp2_with fail
    refine (fnew_any 1048576 w1).mono ?_
    rintro e w2 ⟨b, rfl, fl⟩
    rw [show roomOf 1048576 = 1048576 from rfl] at fl
    have HF : Hid _ := fl
    clear fl
    go_wp2_with fail
    refine (fopen_any HF.out Inv.nil).mono ?_
    rintro e w3 ⟨p, rfl, lw⟩
    have HL : Hid _ := lw
    clear lw HF
    go_wp2_with fail
    refine (wplay_any HL.out a cap cs (HE.out.off HO1.out)).mono ?_
    generalize (runP 1048576 ([], ([], [])) cs).1 = rs
    generalize (runP 1048576 ([], ([], [])) cs).2 = s
    rintro e w4 ⟨rfl, lw⟩
    have HL4 : Hid _ := lw
    clear lw HL
    go_wp2_with fail
    refine (wrecs_any HL4.out).mono ?_
    rintro e W ⟨rfl, hw⟩
    rw [hw]
    clear hw W
    go_wp2_with fail
    refine (wsize_any HL4.out.fil).mono ?_
    rintro e W ⟨rfl, hw⟩
    rw [hw]
    clear hw W
    obtain ⟨lb, D, S, h1, h2⟩ := HL4.out.ex
    have HNS : Hid _ := h1.ns
    have HH4 : Hid _ := h1
    have HAGE : Hid _ := h2
    clear h1 h2
    go_wp2_with fail
    refine (wall_any HL4.out).mono ?_
    rintro e w5 ⟨ae, ce, es, rfl, hes, own, rows, hnw, o5⟩
    have HES : Hid _ := hes
    have HOWN : Hid _ := own
    have HROWS : Hid _ := rows
    have HNW : Hid _ := hnw
    have HO5 : Hid _ := o5
    have hle : es.length ≤ 256 := by have e := congrArg List.length hes; rw [absE_len] at e; have := HL4.out.few.1; omega
    clear hes own rows hnw o5
    go_wp2_with fail
    go_loopw [45] (fun y wr => ∃ (n : Nat) (D1 S1 : Nat → Prop), y = .int .i64 (n : Int) ∧ n ≤ es.length ∧ Hol D1 S1 p lb b 1048576 rs s wr ∧ Mov D S D1 S1 w5 wr) (fun y _ => (es.length - intOf y).toNat)
    case atStart => exact ⟨0, D, S, rfl, by omega, HH4.out.free HO5.out, Mov.refl D S w5⟩
    case round =>
     obtain ⟨n, D1, S1, rfl, hn, hhol, hmv⟩ := hrel
     have HHOL : Hid _ := hhol
     have HMV : Hid _ := hmv
     clear hhol hmv
     by_cases hlt : n < es.length
     · have e1 : decide ((n : Int) < (es.length : Int)) = true := decide_eq_true (by omega)
       have e2 : decide (n < es.length) = true := decide_eq_true hlt
       obtain ⟨x, hx⟩ : ∃ x, es[n]? = some x := ⟨_, List.getElem?_eq_getElem hlt⟩
       obtain ⟨gx, rfl, kx⟩ := (HOWN.out.off HMV.out.off (fun c _ hc e => by have h3 := HNS.out c (HNW.out c hc); exact e.elim h3.1 h3.2)).at_ ecs_len hx
       obtain ⟨rx0, fx⟩ := HROWS.out x (List.mem_of_getElem? hx)
       have tx0 : Ter (fun c => ¬ D c ∧ ¬ S c) x.a x.l := fx.ter.mono (fun c hc => HNS.out c hc)
       have HTX : Hid (Ter (fun c => ¬ D1 c ∧ ¬ S1 c) x.a x.l) := (tx0.and rx0.below).mono (fun c hc => HMV.out.not hc.2 hc.1)
       have rx := HMV.out.row rx0 tx0
       have hxm : x.abs ∈ s.1 := by rw [← HES.out]; exact List.mem_map_of_mem (List.mem_of_getElem? hx)
       have HOKX : Hid _ := HHOL.out.inv.ok.ok x.abs hxm
       obtain ⟨ja, jb⟩ := idle_joinA HHOL.out.inv.ok hxm 1048576 rs
       have HJA : Hid _ := ja
       have HJB : Hid _ := jb
       clear rx0 fx tx0 hx hxm ja jb
       rw [show n * 10 = 0 + n * 10 from (Nat.zero_add _).symm] at kx
       go_upto_region 11 with fail
       refine wp_region_list ?_
       refine wpList_exec 47 rfl rfl (exec_idx10 rfl (idx_ents hlt _ _ 0 _)) ?_
       simp only [Act.put, lsA, lsZ, lsS]
       refine wpList_exec 48 rfl rfl (exec_load rfl (run_loadAt_mid wr gx (0 + n * 10) 47 (ecs x) _ kx Tryz.underlying47 rfl (by kernel_rfl))) ?_
       simp only [Act.put, lsA, lsZ, lsS]
       refine wpList_exec 9 rfl rfl (exec_alloc rfl (allocE wr)) ?_
       simp only [Act.put, lsA, lsZ, lsS]
       refine wpList_skip rfl rfl (exec_store rfl (storeE wr x)) ?_
       have Cq4 := Cel.new wr 47 (ecs x).toArray
       have OA : Off (fun _ => False) wr (wr.alloc (.cells (ecs x).toArray 47)) := (Off.refl _ wr).alloc _
       generalize hq : wr.heap.size = q4 at Cq4 ⊢
       generalize hv : wr.alloc (.cells (ecs x).toArray 47) = V4 at Cq4 OA ⊢
       clear hq hv kx
       obtain ⟨u0, u1, u2, u3, u4, u5, u6, u7, u8, u9⟩ := cel10 Cq4
       have HHV : Hid _ := HHOL.out.free OA
       have HMO : Hid _ := HMV.out.free OA
       have HRO : Hid _ := rx.off OA
       clear Cq4 OA rx
       go_wp2_with fail
       clear u0 u1 u2 u3 u4 u5 u6 u7 u8 u9
       refine (ljoin_any HHV.out x HRO.out HOKX.out.nrm HTX.out (by have := (key_size HOKX.out.key).2; show x.abs.key.size ≤ _; omega)).mono ?_
       rw [HJA.out, HJB.out]
       rintro e v6 ⟨rfl, D2, S2, hol, mv⟩
       have HH : Hid _ := hol
       have HM : Hid _ := mv
       clear hol mv
       go_wp2_with fail
       go_roundw
       case rel => exact ⟨n + 1, D2, S2, by go_num, by omega, HH.out, HMO.out.trans HM.out⟩
       case measure => simp [intOf]; omega
     · obtain rfl : n = es.length := by omega
       have e1 : decide ((es.length : Int) < (es.length : Int)) = false := decide_eq_false (by omega)
       have e2 : decide (es.length < es.length) = false := decide_eq_false (by omega)
       have HL6 : Hid (Lw w1 p b 1048576 rs s wr) := Lw.mov HAGE.out (HL4.out.free HO5.out).off HHOL.out HMV.out
       clear HES HOWN HROWS HNW HO5 hle HH4 HAGE HHOL HMV HNS
       obtain ⟨lb2, D2, S2, h1, h2⟩ := HL6.out.ex
       have HNS : Hid _ := h1.ns
       have HH4 : Hid _ := h1
       have HAGE : Hid _ := h2
       clear h1 h2
       go_wp2_with fail
       refine (whints_any HL6.out).mono ?_
       rintro e w7 ⟨ah, ch, ys, rfl, hys, own, rows, ters, hnw, o7⟩
       have HES : Hid _ := hys
       have HOWN : Hid _ := own
       have HROWS : Hid _ := rows
       have HTERS : Hid _ := ters
       have HNW : Hid _ := hnw
       have HO5 : Hid _ := o7
       have hle : ys.length ≤ 64 := by have e := congrArg List.length hys; rw [absH_len] at e; have := HL6.out.few.2; omega
       clear hys own rows ters hnw o7
       go_wp2_with fail
       generalize hw6 : wr = N6 at *
       clear hw6 wr
       go_loopw [64] (fun y wr => ∃ (n : Nat) (D1 S1 : Nat → Prop), y = .int .i64 (n : Int) ∧ n ≤ ys.length ∧ Hol D1 S1 p lb2 b 1048576 rs s wr ∧ Mov D2 S2 D1 S1 w7 wr) (fun y _ => (ys.length - intOf y).toNat)
       case atStart => exact ⟨0, D2, S2, rfl, by omega, HH4.out.free HO5.out, Mov.refl D2 S2 w7⟩
       case round =>
        obtain ⟨n, D1, S1, rfl, hn, hhol, hmv⟩ := hrel
        have HHOL : Hid _ := hhol
        have HMV : Hid _ := hmv
        clear hhol hmv
        by_cases hlt : n < ys.length
        · have e3 : decide ((n : Int) < (ys.length : Int)) = true := decide_eq_true (by omega)
          have e4 : decide (n < ys.length) = true := decide_eq_true hlt
          obtain ⟨x, hx⟩ : ∃ x, ys[n]? = some x := ⟨_, List.getElem?_eq_getElem hlt⟩
          obtain ⟨gx, rfl, kx⟩ := (HOWN.out.off HMV.out.off (fun c _ hc e => by have h3 := HNS.out c (HNW.out c hc); exact e.elim h3.1 h3.2)).at_ hcs_len hx
          have rx0 := HROWS.out x (List.mem_of_getElem? hx)
          have tx0 : Ter (fun c => ¬ D2 c ∧ ¬ S2 c) x.e.a x.e.l := (HTERS.out x (List.mem_of_getElem? hx)).mono (fun c hc => HNS.out c hc)
          have HTX : Hid (Ter (fun c => ¬ D1 c ∧ ¬ S1 c) x.e.a x.e.l) := (tx0.and rx0.below).mono (fun c hc => HMV.out.not hc.2 hc.1)
          have rx := HMV.out.row rx0 tx0
          have hxm : x.abs ∈ s.2 := by rw [← HES.out]; exact List.mem_map_of_mem (List.mem_of_getElem? hx)
          have HOKX : Hid (OkK x.e.abs) := (HHOL.out.inv.ok.hint hxm).2
          have HJA : Hid (hintA 1048576 rs s x.node x.e.abs = ⟨0, rs, s⟩) := idle_hintA HHOL.out.inv.ok hxm 1048576 rs
          clear rx0 tx0 hx hxm
          rw [show n * 11 = 0 + n * 11 from (Nat.zero_add _).symm] at kx
          go_upto_region 18 with fail
          refine wp_region_list ?_
          refine wpList_exec 66 rfl rfl (exec_idx10 rfl (idx_hins hlt _ _ 0 _)) ?_
          simp only [Act.put, lsA, lsZ, lsS]
          refine wpList_exec 67 rfl rfl (exec_load rfl (run_loadAt_mid wr gx (0 + n * 11) 51 (hcs x) _ kx Tryz.underlying51 rfl (by kernel_rfl))) ?_
          simp only [Act.put, lsA, lsZ, lsS]
          refine wpList_exec 13 rfl rfl (exec_alloc rfl (allocH wr)) ?_
          simp only [Act.put, lsA, lsZ, lsS]
          refine wpList_skip rfl rfl (exec_store rfl (storeH wr x)) ?_
          have Cq4 := Cel.new wr 51 (hcs x).toArray
          have OA : Off (fun _ => False) wr (wr.alloc (.cells (hcs x).toArray 51)) := (Off.refl _ wr).alloc _
          generalize hq : wr.heap.size = q4 at Cq4 ⊢
          generalize hv : wr.alloc (.cells (hcs x).toArray 51) = V4 at Cq4 OA ⊢
          clear hq hv kx
          obtain ⟨u0, u1, u2, u3, u4, u5, u6, u7, u8, u9, u10⟩ := cel11 Cq4
          have HHV : Hid _ := HHOL.out.free OA
          have HMO : Hid _ := HMV.out.free OA
          have HRO : Hid _ := rx.off OA
          clear Cq4 OA rx
          go_wp2_with fail
          clear u0 u1 u2 u3 u4 u5 u6 u7 u8 u9 u10
          refine (lhint_any HHV.out x.node x.e HRO.out HOKX.out.nrm HTX.out).mono ?_
          rw [HJA.out]
          rintro e v6 ⟨rfl, D3, S3, hol, mv⟩
          have HH : Hid _ := hol
          have HM : Hid _ := mv
          clear hol mv
          go_wp2_with fail
          go_roundw
          case rel => exact ⟨n + 1, D3, S3, by go_num, by omega, HH.out, HMO.out.trans HM.out⟩
          case measure => simp [intOf]; omega
        · obtain rfl : n = ys.length := by omega
          have e3 : decide ((ys.length : Int) < (ys.length : Int)) = false := decide_eq_false (by omega)
          have e4 : decide (ys.length < ys.length) = false := decide_eq_false (by omega)
          have HL8 : Hid (Lw w1 p b 1048576 rs s wr) := Lw.mov HAGE.out (HL6.out.free HO5.out).off HHOL.out HMV.out
          have HLZ : Hid (32 < lng.size) := lng_size
          clear HES HOWN HROWS HNW HO5 hle HH4 HAGE HHOL HMV HNS HTERS HL6 HL4
          obtain ⟨lb3, D3, S3, h1, h2⟩ := HL8.out.ex
          have HHQ : Hid _ := h1
          have HAGE : Hid _ := h2
          have HUN : Hid _ := idle_unh h1.inv.ok HLZ.out 7 zer [] 1048576 rs
          have HRE : Hid _ := idle_reap h1.inv.ok HLZ.out 1048576 rs
          clear h1 h2
          go_wp2_with fail
          refine (lunhint_any HHQ.out 7 lng zer none 0 [] (Row.nil _ none 0 (by omega))).mono ?_
          rw [show cont [] = [] from rfl, HUN.out.1, HUN.out.2]
          rintro e w9 ⟨rfl, D4, S4, hol, mv⟩
          have HL9 : Hid (Lw w1 p b 1048576 rs s w9) := Lw.mov HAGE.out HL8.out.off hol mv
          clear hol mv HHQ HAGE HUN HL8
          go_wp2_with fail
          obtain ⟨lb5, D5, S5, h1, h2⟩ := HL9.out.ex
          refine (lreap_any h1 lng (by decide)).mono ?_
          rw [HRE.out.1, HRE.out.2]
          rintro e w10 ⟨rfl, D6, S6, hol, mv⟩
          have HL10 : Hid (Lw w1 p b 1048576 rs s w10) := Lw.mov h2 HL9.out.off hol mv
          clear hol mv HRE HL9 h1 h2
          go_wp2_with fail
          refine (wrecs_any HL10.out).mono ?_
          rintro e W ⟨rfl, hw⟩
          rw [hw]
          clear hw W
          go_wp2_with fail
          refine (wsize_any HL10.out.fil).mono ?_
          rintro e W ⟨rfl, hw⟩
          rw [hw]
          clear hw W
          go_wp2_with fail
          refine (awake_any _).mono ?_
          rintro e w11 ⟨rfl, o11⟩
          have HOZ : Hid _ := (HO1.out.trans HL10.out.off (fun _ _ h => h)).trans o11 (fun _ _ h => h)
          clear o11
          go_wp2_with fail
          go_ret
          exact ⟨rfl, HOZ.out⟩
end Go.Proofs.YthjbnpaghiojlabGreat
