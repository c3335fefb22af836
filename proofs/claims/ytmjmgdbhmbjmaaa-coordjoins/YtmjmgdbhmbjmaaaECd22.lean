/- Items of several texts. -/
import Derived.Test.YtmjmgdbhmbjmaaaECa22
namespace Go.Proofs.Ytmjmgdbhmbjmaaa
set_option maxRecDepth 100000
open Go.RowKit
theorem cfind_no {D Z : Nat → Prop} {p : Nat} {x : CM} {w : World} (h : CST D Z p x w) {n : Int} (hn : wf64 n) (hf : fndO n x.t = none) : Calls Try.prog 36 #[.pointer (some ⟨p, 0, none⟩), .int .i64 n] w fun e w' => e = .returned (.pointer none) ∧ w' = w := by
 have := cfind_any h hn
 rw [hf] at this
 exact this
theorem cfind_yes {D Z : Nat → Prop} {p : Nat} {x : CM} {w : World} (h : CST D Z p x w) {n : Int} (hn : wf64 n) {o : OpD} (hf : fndO n x.t = some o) : Calls Try.prog 36 #[.pointer (some ⟨p, 0, none⟩), .int .i64 n] w fun e w' => e = .returned (.pointer (some ⟨o.q, 0, none⟩)) ∧ w' = w := by
 have := cfind_any h hn
 rw [hf] at this
 exact this
theorem k9w {o : OpD} {n : Int} {w : World} (h : OpAt (setWho o n) w) : w.cell? ⟨o.q, 2, none⟩ = some (.int .i64 (o.kn.f 0)) ∧ w.cell? ⟨o.q, 3, none⟩ = some (.int .i64 (o.kn.f 1)) ∧ w.cell? ⟨o.q, 4, none⟩ = some (.int .i64 (o.kn.f 2)) ∧ w.cell? ⟨o.q, 5, none⟩ = some (.int .i64 (o.kn.f 3)) ∧ w.cell? ⟨o.q, 6, none⟩ = some (.int .i64 (o.kn.f 4)) ∧ w.cell? ⟨o.q, 7, none⟩ = some (.int .i64 (o.kn.f 5)) ∧ w.cell? ⟨o.q, 8, none⟩ = some (.int .i64 (o.kn.f 6)) ∧ w.cell? ⟨o.q, 9, none⟩ = some (.int .i64 (o.kn.f 7)) ∧ w.cell? ⟨o.q, 10, none⟩ = some (.slice o.kn.a o.kn.l.length o.kn.cap) := h.k9
theorem ackA_none {x : CA} {n node : Int} (h : fndA n x.t = none) : ackA x n node = (x, false) := by unfold ackA; rw [h]
theorem ackA_read {x : CA} {n node : Int} {o : OA} (h : fndA n x.t = some o) (hr : o.read = true) : ackA x n node = (x, false) := by unfold ackA; rw [h]; simp [hr]
theorem ackA_more {x : CA} {n node : Int} {o : OA} (h : fndA n x.t = some o) (hr : o.read = false) (hb : addB o.need o.who node = false) : ackA x n node = ({ x with t := repA { o with who := adds o.who node } x.t }, false) := by unfold ackA; rw [h]; simp [hr, hb]
theorem ackA_done {x : CA} {n node : Int} {o : OA} (h : fndA n x.t = some o) (hr : o.read = false) (hb : addB o.need o.who node = true) : ackA x n node = (finA { x with t := repA { o with who := adds o.who node } x.t } n 0 o.kn, true) := by unfold ackA; rw [h]; simp [hr, hb]
theorem fin_abs {x1 x' : CM} {n err : Int} {s : SV} (e1 : x'.t = dropO n x1.t) (e2 : x'.an = x1.an ++ [⟨n, err, s⟩]) (e3 : x'.wait = x1.wait) (e4 : x'.last = x1.last) : x'.abs = finA x1.abs n err s.abs := by
 unfold CM.abs finA
 simp only [e1, e2, e3, e4, drop_abs, List.map_append]
 rfl
set_option maxHeartbeats 2000000 in
theorem ack_any {D Z : Nat → Prop} {p : Nat} {x : CM} {w : World} (h : CST D Z p x w) {n : Int} (hn : wf64 n) (node : Int) : Calls Try.prog 22 #[.pointer (some ⟨p, 0, none⟩), .int .i64 n, .int .i64 node] w fun e w' => ∃ x' D' Z', CST D' Z' p x' w' ∧ Gro D D' Z Z' w w' ∧ x'.abs = (ackA x.abs n node).1 ∧ e = .returned (.bool (ackA x.abs n node).2) := by
 have hq := eql_pO
 have HC : Hid _ := h
 have HA : fndA n x.abs.t = (fndO n x.t).map OpD.abs := fnd_abs n x.t
 cases hf : fndO n x.t with
 | none =>
  rw [hf] at HA
  have HR : Hid _ := ackA_none (node := node) HA
  have HF : Hid _ := cfind_no h hn hf
  clear h HA
  go_enter Try.func22, Try.ntmps22
  go_wp2_with fail
  refine Calls.mono HF.out ?_
  rintro e w1 ⟨rfl, hw⟩
  rw [hw]
  clear hw w1 HF
  go_wp2_with fail
  go_ret
  rw [HR.out]
  exact ⟨x, D, Z, HC.out, Gro.of (Off.refl _ w), rfl, rfl⟩
 | some o =>
  rw [hf] at HA
  have HF : Hid _ := cfind_yes h hn hf
  obtain ⟨ho, hid⟩ := fndO_some hf
  obtain ⟨k1, k2, k3, k4, k5⟩ := h.op o ho
  have HK : Hid _ := k1
  have c0 := k1.c0
  cases hr : o.read
  ·rw [hr] at c0
   have c83 := k1.c83
   have HAD : Hid _ := add_any k1.cnt node
   have HO : Hid _ := ho
   have HI : Hid _ := hid
   have H4 : Hid _ := k4
   have H5 : Hid _ := k5
   cases hb : addB o.need o.who node
   ·rw [hb] at HAD
    have HR : Hid _ := ackA_more (node := node) HA hr hb
    clear h HA ho hid k1 k2 k3 k4 k5 hr hb hf
    go_enter Try.func22, Try.ntmps22
    go_wp2_with fail
    refine Calls.mono HF.out ?_
    rintro e w1 ⟨rfl, hw⟩
    rw [hw]
    clear hw w1 HF
    go_wp2_with fail
    refine Calls.mono HAD.out ?_
    rintro e w1 ⟨rfl, hc, o1⟩
    have HCN : Hid _ := hc
    have HO1 : Hid _ := o1
    clear hc o1 HAD
    go_wp2_with fail
    go_ret
    have O1 := HO1.out
    have k1 := HK.out
    have h := HC.out
    have A : OpAt (setWho o node) w1 := ⟨k1.cel.off O1 (fun e => k1.ne e.symm), HCN.out⟩
    have OD : Off D w w1 := O1.mono (fun c _ e => e ▸ (h.op o HO.out).2.2.1)
    obtain ⟨c1, g1, f1⟩ := h.rep HO.out (o' := setWho o node) rfl rfl rfl (h.ids o HO.out).2.2 (O1.mono (fun _ _ e => .inr e)) A (H4.out.off OD (fun c _ => h.sub c)) (fun n hn => (H5.out n hn).off OD (fun c _ => h.sub c))
    rw [HR.out]
    exact ⟨_, D, Z, c1, g1, by unfold CM.abs; simp only [rep_abs]; rfl, rfl⟩
   ·rw [hb] at HAD
    have HR : Hid _ := ackA_done (node := node) HA hr hb
    clear h HA ho hid k1 k2 k3 k4 k5 hr hb hf c83
    have c83 := HK.out.c83
    go_enter Try.func22, Try.ntmps22
    go_wp2_with fail
    refine Calls.mono HF.out ?_
    rintro e w1 ⟨rfl, hw⟩
    rw [hw]
    clear hw w1 HF
    go_wp2_with fail
    refine Calls.mono HAD.out ?_
    rintro e w1 ⟨rfl, hc, o1⟩
    have HCN : Hid _ := hc
    have HO1 : Hid _ := o1
    have A : OpAt (setWho o node) w1 := ⟨HK.out.cel.off o1 (fun e => HK.out.ne e.symm), hc⟩
    obtain ⟨x0, x1, x2, x3, x4, x5, x6, x7, x8⟩ := k9w A
    have HA1 : Hid _ := A
    clear A
    clear hc o1 HAD
    have O1 := HO1.out
    have h := HC.out
    have OD : Off D w w1 := O1.mono (fun c _ e => e ▸ (h.op o HO.out).2.2.1)
    have s1 := H4.out.off OD (fun c _ => h.sub c)
    obtain ⟨c1, g1, f1⟩ := h.rep HO.out (o' := setWho o node) rfl rfl rfl (h.ids o HO.out).2.2 (O1.mono (fun _ _ e => .inr e)) HA1.out s1 (fun n hn => (H5.out n hn).off OD (fun c _ => h.sub c))
    rw [HI.out] at f1
    have HFN : Hid _ := finish_any c1 f1 hn 0 o.kn s1
    have HG1 : Hid _ := g1
    clear c1 g1 f1 s1 OD O1 h
    go_wp2_with fail
    refine Calls.mono HFN.out ?_
    rintro e w2 ⟨rfl, x', D', Z', c2, g2, e1, e2, e3, e4, -⟩
    have HC2 : Hid _ := c2
    have HG2 : Hid _ := HG1.out.trans g2
    have HE : Hid _ := fin_abs (x1 := { x with t := repO (setWho o node) x.t }) e1 e2 e3 e4
    clear c2 g2 e1 e2 e3 e4 x0 x1 x2 x3 x4 x5 x6 x7 x8
    go_wp2_with fail
    go_ret
    rw [HR.out]
    refine ⟨x', D', Z', HC2.out, HG2.out, ?_, rfl⟩
    rw [HE.out]
    unfold CM.abs finA
    simp only [rep_abs]
    rfl
  ·rw [hr] at c0
   have HR : Hid _ := ackA_read (node := node) HA hr
   clear h HA ho hid k1 k2 k3 k4 k5 hr
   go_enter Try.func22, Try.ntmps22
   go_wp2_with fail
   refine Calls.mono HF.out ?_
   rintro e w1 ⟨rfl, hw⟩
   rw [hw]
   clear hw w1 HF
   go_wp2_with fail
   go_ret
   rw [HR.out]
   exact ⟨x, D, Z, HC.out, Gro.of (Off.refl _ w), rfl, rfl⟩
end Go.Proofs.Ytmjmgdbhmbjmaaa
