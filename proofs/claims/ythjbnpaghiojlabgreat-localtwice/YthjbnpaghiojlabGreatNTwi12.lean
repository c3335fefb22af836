/- Items of several texts. -/
import Derived.Test.YthjbnpaghiojlabGreatNAw12
import Derived.Test.YthjbnpaghiojlabGreatNSms11
import Derived.Test.YthjbnpaghiojlabGreatNIdp12
namespace Go.Proofs.YthjbnpaghiojlabGreat
open Go.RowKit
structure Fd (w0 : World) (b most : Nat) (rs : List (List Nat)) (D0 : Nat → Prop) (w : World) : Prop where
 dsk : Dsk D0 b most (frs rs) (frs rs).length w
 age : ∀ c, D0 c → w0.heap.size ≤ c
 off : Off (fun _ => False) w0 w
structure Vw (w0 : World) (b : Nat) (rs : List (List Nat)) (s : PS) (p : Nat) (D0 : Nat → Prop) (w : World) : Prop where
 ex : ∃ (S : Nat → Prop) (lb : Nat), Cor S p (.pointer (some ⟨lb, 0, none⟩)) s w ∧ Cel lb 103 #[.pointer (some ⟨b, 0, none⟩), .int .i64 ((rs.length : Nat) : Int), .int .i64 (((frs rs).length : Nat) : Int)] w ∧ (∀ c, S c → ¬ D0 c ∧ c ≠ lb ∧ w0.heap.size ≤ c) ∧ ¬ D0 lb ∧ w0.heap.size ≤ lb
theorem Fd.free {w0 : World} {b most : Nat} {rs : List (List Nat)} {D0 : Nat → Prop} {w w' : World} (h : Fd w0 b most rs D0 w) (o : Off (fun _ => False) w w') : Fd w0 b most rs D0 w' := ⟨h.dsk.free o, h.age, h.off.trans o (fun _ _ h => h)⟩
theorem Vw.free {w0 : World} {b : Nat} {rs : List (List Nat)} {s : PS} {p : Nat} {D0 : Nat → Prop} {w w' : World} (h : Vw w0 b rs s p D0 w) (o : Off (fun _ => False) w w') : Vw w0 b rs s p D0 w' := by
 obtain ⟨S, lb, h1, h2, h3, h4, h5⟩ := h.ex
 exact ⟨S, lb, h1.free o, h2.off o (fun h => h), h3, h4, h5⟩
theorem Vw.step {w0 : World} {b : Nat} {rs : List (List Nat)} {s : PS} {p : Nat} {D0 D1 : Nat → Prop} {w w' : World} (h : Vw w0 b rs s p D0 w) (o : Off D0 w w') (hd : ∀ c, D1 c → D0 c ∨ w.heap.size ≤ c) : Vw w0 b rs s p D1 w' := by
 obtain ⟨S, lb, h1, h2, h3, h4, h5⟩ := h.ex
 refine ⟨S, lb, h1.off o (fun c _ hc => (h3 c hc).1), h2.off o h4, fun c hc => ⟨fun e => ?_, (h3 c hc).2⟩, fun e => ?_, h5⟩
 ·rcases hd c e with e | e
  ·exact (h3 c hc).1 e
  ·have := h1.lt c hc
   omega
 ·rcases hd lb e with e | e
  ·exact h4 e
  ·have := h2.lt
   omega
theorem Lw.vw {w0 : World} {p b most : Nat} {rs : List (List Nat)} {s : PS} {w : World} (h : Lw w0 p b most rs s w) : ∃ D0, Fd w0 b most rs D0 w ∧ Vw w0 b rs s p D0 w := by
 obtain ⟨lb, D, S, h1, h2⟩ := h.ex
 obtain ⟨D0, k1, k2, k3⟩ := h1.std.lg.dsk
 exact ⟨D0, ⟨k1, fun c hc => h2 c (.inl (k2 c hc)), h.off⟩, ⟨S, lb, h1.cor, h1.std.lg.log, fun c hc => ⟨fun e => h1.sep c hc (k2 c e), fun e => h1.sep c hc (by rw [e]; exact h1.std.lg.here), h2 c (.inr hc)⟩, k3, h2 lb (.inl h1.std.lg.here)⟩⟩
theorem vopen_any {w0 : World} {b most : Nat} {rs : List (List Nat)} {s : PS} {D0 : Nat → Prop} {w : World} (h : Fd w0 b most rs D0 w) (hi : Inv rs s) :
  Calls Tryz.prog 10 #[.pointer (some ⟨b, 0, none⟩)] w fun e w' => ∃ (p : Nat) (D1 : Nat → Prop), e = .returned (.tuple #[.pointer (some ⟨p, 0, none⟩), .int .i64 0]) ∧ Fd w0 b most rs D1 w' ∧ Vw w0 b rs s p D1 w' ∧ Off D0 w w' ∧ (∀ c, D1 c → D0 c ∨ w.heap.size ≤ c) := by
 refine (lopen_any (xs := []) (by rw [List.append_nil]; exact h.dsk) tk_nil (by simp) (fun _ => rfl) hi.rec_).mono ?_
 rintro e w' ⟨q, er, rfl, op⟩
 rcases op.is with ⟨s', p, hr, rfl, rfl, ⟨lb, D', S', hol, o, n1, n2⟩⟩ | ⟨hr, -⟩
 ·rw [hi.run] at hr
  obtain rfl : s = s' := Option.some.inj hr
  have hsz := h.off.size
  obtain ⟨D1, k1, k2, k3⟩ := hol.std.lg.dsk
  have hage : ∀ c, D' c → w0.heap.size ≤ c := fun c hc => by
   rcases n1 c hc with e | e
   ·exact h.age c e
   ·omega
  refine ⟨p, D1, rfl, ⟨k1, fun c hc => hage c (k2 c hc), ((h.off.mono (fun _ _ h => h.elim)).trans o (fun _ _ h => h)).mono (fun i hi e => by have := h.age i e; omega)⟩, ⟨S', lb, hol.cor, hol.std.lg.log, fun c hc => ⟨fun e => hol.sep c hc (k2 c e), fun e => hol.sep c hc (by rw [e]; exact hol.std.lg.here), ?_⟩, k3, hage lb hol.std.lg.here⟩, o, fun c hc => n1 c (k2 c hc)⟩
  have := n2 c hc
  omega
 ·rw [hi.run] at hr
  cases hr
theorem vall_any {w0 : World} {b : Nat} {rs : List (List Nat)} {s : PS} {p : Nat} {D0 : Nat → Prop} {w : World} (h : Vw w0 b rs s p D0 w) :
  Calls Tryz.prog 14 #[.pointer (some ⟨p, 0, none⟩)] w fun e w' => ∃ (a : Option Addr) (c : Nat) (es : List E), e = .returned (.slice a es.length c) ∧ absE es = s.1 ∧ OwnG 47 10 ecs w' a c es ∧ (∀ e ∈ es, Row w' e.a e.cap e.l ∧ Far w.heap.size e.a e.l) ∧ (∀ x, blk a = some x → w.heap.size ≤ x) ∧ Off (fun _ => False) w w' := by
 obtain ⟨S, lb, h1, -⟩ := h.ex
 exact lall_any h1
theorem vhints_any {w0 : World} {b : Nat} {rs : List (List Nat)} {s : PS} {p : Nat} {D0 : Nat → Prop} {w : World} (h : Vw w0 b rs s p D0 w) :
  Calls Tryz.prog 16 #[.pointer (some ⟨p, 0, none⟩)] w fun e w' => ∃ (a : Option Addr) (c : Nat) (ys : List H), e = .returned (.slice a ys.length c) ∧ absH ys = s.2 ∧ OwnG 51 11 hcs w' a c ys ∧ (∀ y ∈ ys, Row w' y.e.a y.e.cap y.e.l) ∧ (∀ y ∈ ys, Ter (fun c => w.heap.size ≤ c) y.e.a y.e.l) ∧ (∀ c, blk a = some c → w.heap.size ≤ c) ∧ Off (fun _ => False) w w' := by
 obtain ⟨S, lb, h1, -⟩ := h.ex
 exact lhints_any h1
theorem vrecs_any {w0 : World} {b : Nat} {rs : List (List Nat)} {s : PS} {p : Nat} {D0 : Nat → Prop} {w : World} (h : Vw w0 b rs s p D0 w) :
  Calls Tryz.prog 17 #[.pointer (some ⟨p, 0, none⟩)] w fun e w' => e = .returned (.int .i64 ((rs.length : Nat) : Int)) ∧ w' = w := by
 obtain ⟨S, lb, h1, h2, -⟩ := h.ex
 obtain ⟨tp, tb, hp, T, H, t, xs, c0, -⟩ := h1.is
 exact lrecs_any c0 h2
theorem Vw.few {w0 : World} {b : Nat} {rs : List (List Nat)} {s : PS} {p : Nat} {D0 : Nat → Prop} {w : World} (h : Vw w0 b rs s p D0 w) : s.1.length ≤ 256 ∧ s.2.length ≤ 64 := by
 obtain ⟨S, lb, h1, -⟩ := h.ex
 exact ⟨h1.ok.few, h1.ok.set.few⟩
end Go.Proofs.YthjbnpaghiojlabGreat

namespace Go.Proofs.YthjbnpaghiojlabGreat
open Go.RowKit
set_option maxRecDepth 100000 in
set_option maxHeartbeats 8000000 in
theorem twice_walk (a : Option Addr) (cap : Nat) (cs : List C) (w : World) (hE : Cas w a cap cs) : Calls Tryz.prog 3 #[.slice a cs.length cap] w fun e w' => e = .returned (.bool true) ∧ Off (fun _ => False) w w' := by
 have hnot := not_any
 have hq := eql_sto
 have HE : Hid _ := hE
 clear hE
 go_enter Tryz.func3, Tryz.ntmps3
 go_wp2_with fail
 refine (light_any a cap cs w HE.out).mono ?_
 rintro e w1 ⟨bl, rfl, -, o1⟩
 have HO1 : Hid _ := o1
 clear o1
 cases bl
 ·go_wp2_with fail
  refine (awake_any _).mono ?_
  rintro e w2 ⟨rfl, o2⟩
  have HO2 : Hid _ := HO1.out.trans o2 (fun _ _ h => h)
  clear o2
  go_wp2_with fail
  go_ret
  exact ⟨rfl, HO2.out⟩
 ·go_wp2_with fail
  refine (fnew_any 1048576 w1).mono ?_
  rintro e w2 ⟨b, rfl, fl⟩
  obtain ⟨most, hmost⟩ : ∃ m, m = roomOf 1048576 := ⟨_, rfl⟩
  rw [← hmost] at fl
  clear hmost
  have HF : Hid _ := fl
  clear fl
  go_wp2_with fail
  refine (fopen_any HF.out Inv.nil).mono ?_
  rintro e w3 ⟨p, rfl, lw⟩
  have HL : Hid _ := lw
  clear lw HF
  go_wp2_with fail
  refine (wplay_any HL.out a cap cs (HE.out.off HO1.out)).mono ?_
  generalize (runP most ([], ([], [])) cs).1 = rs
  generalize (runP most ([], ([], [])) cs).2 = s
  rintro e w4 ⟨rfl, lw⟩
  obtain ⟨D4, fd, vw⟩ := lw.vw
  have HF4 : Hid _ := fd
  have HV0 : Hid _ := vw
  have HINV : Hid _ := lw.inv
  clear lw HL fd vw
  go_wp2_with fail
  refine (dbytes_any HF4.out.dsk).mono ?_
  obtain ⟨bs, hbs⟩ : ∃ bs, bs = frs rs := ⟨_, rfl⟩
  rw [← hbs]
  have HBQ : Hid _ := hbs
  clear hbs
  rintro e w5 ⟨tb, cb, rfl, own5, nw5, o5⟩
  have HF5 : Hid _ := HF4.out.free o5
  have HV5 : Hid _ := HV0.out.free o5
  have HOB : Hid _ := own5
  have HNB : Hid (∀ k, blk tb = some k → ¬ D4 k) := fun k hk e => by
   have h1 := nw5 k hk
   have h2 := HF4.out.dsk.lt k e
   omega
  clear own5 nw5 o5 HF4 HV0
  go_wp2_with fail
  refine (vopen_any HF5.out HINV.out).mono ?_
  rintro e w6 ⟨p6, D6, rfl, fd6, vw6, o6, n6⟩
  have HF6 : Hid _ := fd6
  have HW6 : Hid _ := vw6
  have HW4 : Hid _ := HV5.out.step o6 n6
  have HOB6 : Hid _ := HOB.out.off o6 (fun c _ hc => HNB.out c hc)
  have HNB6 : Hid (∀ k, blk tb = some k → ¬ D6 k) := fun k hk e => by
   rcases n6 k e with e | e
   ·exact HNB.out k hk e
   ·have := HOB.out.lt k hk
    omega
  clear fd6 vw6 o6 n6 HF5 HV5 HOB HNB
  go_wp2_with fail
  refine (vopen_any HF6.out HINV.out).mono ?_
  rintro e w7 ⟨p7, D7, rfl, fd7, vw7, o7, n7⟩
  have HFD : Hid _ := fd7
  have HV7 : Hid _ := vw7
  have HV6 : Hid _ := HW6.out.step o7 n7
  have HV4 : Hid _ := HW4.out.step o7 n7
  have HBS : Hid _ := (HOB6.out.off o7 (fun c _ hc => HNB6.out c hc)).src
  have HFEW : Hid _ := vw7.few
  have HOW : Hid _ := HO1.out.trans fd7.off (fun _ _ h => h)
  clear fd7 vw7 o7 n7 HF6 HW6 HW4 HOB6 HNB6 HINV
  go_upto_region 11 with fail
  refine wp_region_held_drew (S := fun w' => Off (fun _ => False) w7 w') (by kernel_rfl) ((Off.refl _ w7).drew) (fun hS => ?_)
  generalize hdr : w7.drew = v0 at hS ⊢
  clear hdr
  refine take_at (i := 0) 42 (v := .int .i64 0) rfl rfl (by kernel_rfl) (by kernel_rfl) (by kernel_rfl) (fun _ _ _ h => h) (Or.inl ⟨by rfl, fun w' hw' => by go_simp⟩) hS ?_
  simp only [Act.put, lsA, lsZ, lsS]
  refine take_at (i := 1) 43 (v := .bool true) rfl rfl (by kernel_rfl) (by kernel_rfl) (by kernel_rfl) (fun _ _ _ h => h) (Or.inl ⟨by rfl, fun w' hw' => by go_simp⟩) hS ?_
  simp only [Act.put, lsA, lsZ, lsS]
  refine take_at (i := 2) 44 (v := .bool true) rfl rfl (by kernel_rfl) (by kernel_rfl) (by kernel_rfl) (fun _ _ _ h => h) (Or.inl ⟨by rfl, fun w' hw' => by go_simp⟩) hS ?_
  simp only [Act.put, lsA, lsZ, lsS]
  refine take_at (i := 3) 45 (v := .int .i64 0) rfl rfl (by kernel_rfl) (by kernel_rfl) (by kernel_rfl) (fun _ _ _ h => h) (Or.inl ⟨by rfl, fun w' hw' => by go_simp⟩) hS ?_
  simp only [Act.put, lsA, lsZ, lsS]
  refine take_at (i := 4) 46 (v := .bool true) rfl rfl (by kernel_rfl) (by kernel_rfl) (by kernel_rfl) (fun _ _ _ h => h) (Or.inl ⟨by rfl, fun w' hw' => by go_simp⟩) hS ?_
  simp only [Act.put, lsA, lsZ, lsS]
  refine take_at (i := 5) 47 (v := .bool true) rfl rfl (by kernel_rfl) (by kernel_rfl) (by kernel_rfl) (fun _ _ _ h => h) (Or.inl ⟨by rfl, fun w' hw' => by go_simp⟩) hS ?_
  simp only [Act.put, lsA, lsZ, lsS]
  refine take_at (i := 6) 48 (v := .bool true) rfl rfl (by kernel_rfl) (by kernel_rfl) (by kernel_rfl) (fun _ _ _ h => h) (Or.inl ⟨by rfl, fun w' hw' => by go_simp⟩) hS ?_
  simp only [Act.put, lsA, lsZ, lsS]
  refine take_at (i := 7) 49 (v := .pointer (some ⟨p6, 0, none⟩)) rfl rfl (by kernel_rfl) (by kernel_rfl) (by kernel_rfl) (fun _ _ _ h => h) (Or.inl ⟨by rfl, fun w' hw' => by go_simp⟩) hS ?_
  simp only [Act.put, lsA, lsZ, lsS]
  refine take_at (i := 9) 51 (v := .pointer (some ⟨p, 0, none⟩)) rfl rfl (by kernel_rfl) (by kernel_rfl) (by kernel_rfl) (fun _ _ _ h => h) (Or.inl ⟨by rfl, fun w' hw' => by go_simp⟩) hS ?_
  simp only [Act.put, lsA, lsZ, lsS]
  refine wpAnyH_ready (rs := [8]) (by kernel_rfl) (by simp) ?_
  refine AllReadyH.cons rfl (fun K' hK' => ?_) AllReadyH.nil
  go_simp
  refine (vall_any (HV6.out.free hS)).mono ?_
  rintro e x0 ⟨aA, cA, eA, rfl, h1, own1, row1, nw1, o1⟩
  have HEA : Hid _ := h1
  have HWA : Hid _ := own1
  have HRA : Hid _ := row1
  refine hK'.out _ _ (hS.trans o1 (fun _ _ h => h)) (fun hS => ?_)
  have HQv0x0 : Hid (Off (fun _ => False) v0 x0) := o1
  clear hK' K' h1 own1 row1 nw1 o1
  refine wpAnyH_ready (rs := [10]) (by kernel_rfl) (by simp) ?_
  refine AllReadyH.cons rfl (fun K' hK' => ?_) AllReadyH.nil
  go_simp
  refine (vall_any (HV4.out.free hS)).mono ?_
  rintro e x1 ⟨aB, cB, eB, rfl, h1, own1, row1, nw1, o1⟩
  have HEB : Hid _ := h1
  have HWB : Hid _ := own1
  have HRB : Hid _ := row1
  refine hK'.out _ _ (hS.trans o1 (fun _ _ h => h)) (fun hS => ?_)
  have HQx0x1 : Hid (Off (fun _ => False) x0 x1) := o1
  clear hK' K' h1 own1 row1 nw1 o1
  refine wpAnyH_ready (rs := [11]) (by kernel_rfl) (by simp) ?_
  refine AllReadyH.cons rfl (fun K' hK' => ?_) AllReadyH.nil
  go_simp
  refine (sameents_any aA aB cA cB eA eB x1 (HWA.out.off HQx0x1.out (fun _ _ _ h => h)).ent (fun e he => (HRA.out e he).1.off HQx0x1.out) HWB.out.ent (fun e he => (HRB.out e he).1) (by rw [HEA.out, HEB.out]) (by have e := congrArg List.length HEA.out; rw [absE_len] at e; have := HFEW.out.1; omega)).mono ?_
  rintro e x2 ⟨rfl, o1⟩
  refine hK'.out _ _ (hS.trans o1 (fun _ _ h => h)) (fun hS => ?_)
  clear hK' K' o1 HEA HEB HWA HWB HRA HRB HQx0x1
  refine take_at (i := 12) 54 (v := .bool true) rfl rfl (by kernel_rfl) (by kernel_rfl) (by kernel_rfl) (fun _ _ _ h => h) (Or.inl ⟨by rfl, fun w' hw' => by go_simp⟩) hS ?_
  simp only [Act.put, lsA, lsZ, lsS]
  refine take_at (i := 13) 55 (v := .bool true) rfl rfl (by kernel_rfl) (by kernel_rfl) (by kernel_rfl) (fun _ _ _ h => h) (Or.inl ⟨by rfl, fun w' hw' => by go_simp⟩) hS ?_
  simp only [Act.put, lsA, lsZ, lsS]
  refine take_at (i := 14) 56 (v := .pointer (some ⟨p7, 0, none⟩)) rfl rfl (by kernel_rfl) (by kernel_rfl) (by kernel_rfl) (fun _ _ _ h => h) (Or.inl ⟨by rfl, fun w' hw' => by go_simp⟩) hS ?_
  simp only [Act.put, lsA, lsZ, lsS]
  refine take_at (i := 16) 58 (v := .pointer (some ⟨p, 0, none⟩)) rfl rfl (by kernel_rfl) (by kernel_rfl) (by kernel_rfl) (fun _ _ _ h => h) (Or.inl ⟨by rfl, fun w' hw' => by go_simp⟩) hS ?_
  simp only [Act.put, lsA, lsZ, lsS]
  refine wpAnyH_ready (rs := [15]) (by kernel_rfl) (by simp) ?_
  refine AllReadyH.cons rfl (fun K' hK' => ?_) AllReadyH.nil
  go_simp
  refine (vall_any (HV7.out.free hS)).mono ?_
  rintro e x3 ⟨aC, cC, eC, rfl, h1, own1, row1, nw1, o1⟩
  have HEC : Hid _ := h1
  have HWC : Hid _ := own1
  have HRC : Hid _ := row1
  refine hK'.out _ _ (hS.trans o1 (fun _ _ h => h)) (fun hS => ?_)
  have HQx2x3 : Hid (Off (fun _ => False) x2 x3) := o1
  clear hK' K' h1 own1 row1 nw1 o1
  refine wpAnyH_ready (rs := [17]) (by kernel_rfl) (by simp) ?_
  refine AllReadyH.cons rfl (fun K' hK' => ?_) AllReadyH.nil
  go_simp
  refine (vall_any (HV4.out.free hS)).mono ?_
  rintro e x4 ⟨aD, cD, eD, rfl, h1, own1, row1, nw1, o1⟩
  have HED : Hid _ := h1
  have HWD : Hid _ := own1
  have HRD : Hid _ := row1
  refine hK'.out _ _ (hS.trans o1 (fun _ _ h => h)) (fun hS => ?_)
  have HQx3x4 : Hid (Off (fun _ => False) x3 x4) := o1
  clear hK' K' h1 own1 row1 nw1 o1
  refine wpAnyH_ready (rs := [18]) (by kernel_rfl) (by simp) ?_
  refine AllReadyH.cons rfl (fun K' hK' => ?_) AllReadyH.nil
  go_simp
  refine (sameents_any aC aD cC cD eC eD x4 (HWC.out.off HQx3x4.out (fun _ _ _ h => h)).ent (fun e he => (HRC.out e he).1.off HQx3x4.out) HWD.out.ent (fun e he => (HRD.out e he).1) (by rw [HEC.out, HED.out]) (by have e := congrArg List.length HEC.out; rw [absE_len] at e; have := HFEW.out.1; omega)).mono ?_
  rintro e x5 ⟨rfl, o1⟩
  refine hK'.out _ _ (hS.trans o1 (fun _ _ h => h)) (fun hS => ?_)
  clear hK' K' o1 HEC HED HWC HWD HRC HRD HQx3x4
  refine take_at (i := 19) 61 (v := .bool true) rfl rfl (by kernel_rfl) (by kernel_rfl) (by kernel_rfl) (fun _ _ _ h => h) (Or.inl ⟨by rfl, fun w' hw' => by go_simp⟩) hS ?_
  simp only [Act.put, lsA, lsZ, lsS]
  refine take_at (i := 20) 62 (v := .bool true) rfl rfl (by kernel_rfl) (by kernel_rfl) (by kernel_rfl) (fun _ _ _ h => h) (Or.inl ⟨by rfl, fun w' hw' => by go_simp⟩) hS ?_
  simp only [Act.put, lsA, lsZ, lsS]
  refine take_at (i := 21) 63 (v := .pointer (some ⟨p6, 0, none⟩)) rfl rfl (by kernel_rfl) (by kernel_rfl) (by kernel_rfl) (fun _ _ _ h => h) (Or.inl ⟨by rfl, fun w' hw' => by go_simp⟩) hS ?_
  simp only [Act.put, lsA, lsZ, lsS]
  refine take_at (i := 23) 65 (v := .pointer (some ⟨p7, 0, none⟩)) rfl rfl (by kernel_rfl) (by kernel_rfl) (by kernel_rfl) (fun _ _ _ h => h) (Or.inl ⟨by rfl, fun w' hw' => by go_simp⟩) hS ?_
  simp only [Act.put, lsA, lsZ, lsS]
  refine wpAnyH_ready (rs := [22]) (by kernel_rfl) (by simp) ?_
  refine AllReadyH.cons rfl (fun K' hK' => ?_) AllReadyH.nil
  go_simp
  refine (vhints_any (HV6.out.free hS)).mono ?_
  rintro e x6 ⟨aF, cF, eF, rfl, h1, own1, row1, ter1, nw1, o1⟩
  have HEF : Hid _ := h1
  have HWF : Hid _ := own1
  have HRF : Hid _ := row1
  refine hK'.out _ _ (hS.trans o1 (fun _ _ h => h)) (fun hS => ?_)
  have HQx5x6 : Hid (Off (fun _ => False) x5 x6) := o1
  clear hK' K' h1 own1 row1 ter1 nw1 o1
  refine wpAnyH_ready (rs := [24]) (by kernel_rfl) (by simp) ?_
  refine AllReadyH.cons rfl (fun K' hK' => ?_) AllReadyH.nil
  go_simp
  refine (vhints_any (HV7.out.free hS)).mono ?_
  rintro e x7 ⟨aG, cG, eG, rfl, h1, own1, row1, ter1, nw1, o1⟩
  have HEG : Hid _ := h1
  have HWG : Hid _ := own1
  have HRG : Hid _ := row1
  refine hK'.out _ _ (hS.trans o1 (fun _ _ h => h)) (fun hS => ?_)
  have HQx6x7 : Hid (Off (fun _ => False) x6 x7) := o1
  clear hK' K' h1 own1 row1 ter1 nw1 o1
  refine wpAnyH_ready (rs := [25]) (by kernel_rfl) (by simp) ?_
  refine AllReadyH.cons rfl (fun K' hK' => ?_) AllReadyH.nil
  go_simp
  refine (samehints_any aF aG cF cG eF eG x7 (HWF.out.off HQx6x7.out (fun _ _ _ h => h)).hns (fun e he => (HRF.out e he).off HQx6x7.out) HWG.out.hns (fun e he => HRG.out e he) (by rw [HEF.out, HEG.out]) (by have e := congrArg List.length HEF.out; rw [absH_len] at e; have := HFEW.out.2; omega)).mono ?_
  rintro e x8 ⟨rfl, o1⟩
  refine hK'.out _ _ (hS.trans o1 (fun _ _ h => h)) (fun hS => ?_)
  clear hK' K' o1 HEF HEG HWF HWG HRF HRG HQx6x7
  refine take_at (i := 26) 68 (v := .bool true) rfl rfl (by kernel_rfl) (by kernel_rfl) (by kernel_rfl) (fun _ _ _ h => h) (Or.inl ⟨by rfl, fun w' hw' => by go_simp⟩) hS ?_
  simp only [Act.put, lsA, lsZ, lsS]
  refine take_at (i := 27) 69 (v := .bool true) rfl rfl (by kernel_rfl) (by kernel_rfl) (by kernel_rfl) (fun _ _ _ h => h) (Or.inl ⟨by rfl, fun w' hw' => by go_simp⟩) hS ?_
  simp only [Act.put, lsA, lsZ, lsS]
  refine take_at (i := 28) 70 (v := .pointer (some ⟨p6, 0, none⟩)) rfl rfl (by kernel_rfl) (by kernel_rfl) (by kernel_rfl) (fun _ _ _ h => h) (Or.inl ⟨by rfl, fun w' hw' => by go_simp⟩) hS ?_
  simp only [Act.put, lsA, lsZ, lsS]
  refine take_at (i := 30) 72 (v := .pointer (some ⟨p, 0, none⟩)) rfl rfl (by kernel_rfl) (by kernel_rfl) (by kernel_rfl) (fun _ _ _ h => h) (Or.inl ⟨by rfl, fun w' hw' => by go_simp⟩) hS ?_
  simp only [Act.put, lsA, lsZ, lsS]
  refine wpAnyH_ready (rs := [29]) (by kernel_rfl) (by simp) ?_
  refine AllReadyH.cons rfl (fun K' hK' => ?_) AllReadyH.nil
  go_simp
  refine (vhints_any (HV6.out.free hS)).mono ?_
  rintro e x9 ⟨aI, cI, eI, rfl, h1, own1, row1, ter1, nw1, o1⟩
  have HEI : Hid _ := h1
  have HWI : Hid _ := own1
  have HRI : Hid _ := row1
  refine hK'.out _ _ (hS.trans o1 (fun _ _ h => h)) (fun hS => ?_)
  have HQx8x9 : Hid (Off (fun _ => False) x8 x9) := o1
  clear hK' K' h1 own1 row1 ter1 nw1 o1
  refine wpAnyH_ready (rs := [31]) (by kernel_rfl) (by simp) ?_
  refine AllReadyH.cons rfl (fun K' hK' => ?_) AllReadyH.nil
  go_simp
  refine (vhints_any (HV4.out.free hS)).mono ?_
  rintro e x10 ⟨aJ, cJ, eJ, rfl, h1, own1, row1, ter1, nw1, o1⟩
  have HEJ : Hid _ := h1
  have HWJ : Hid _ := own1
  have HRJ : Hid _ := row1
  refine hK'.out _ _ (hS.trans o1 (fun _ _ h => h)) (fun hS => ?_)
  have HQx9x10 : Hid (Off (fun _ => False) x9 x10) := o1
  clear hK' K' h1 own1 row1 ter1 nw1 o1
  refine wpAnyH_ready (rs := [32]) (by kernel_rfl) (by simp) ?_
  refine AllReadyH.cons rfl (fun K' hK' => ?_) AllReadyH.nil
  go_simp
  refine (samehints_any aI aJ cI cJ eI eJ x10 (HWI.out.off HQx9x10.out (fun _ _ _ h => h)).hns (fun e he => (HRI.out e he).off HQx9x10.out) HWJ.out.hns (fun e he => HRJ.out e he) (by rw [HEI.out, HEJ.out]) (by have e := congrArg List.length HEI.out; rw [absH_len] at e; have := HFEW.out.2; omega)).mono ?_
  rintro e x11 ⟨rfl, o1⟩
  refine hK'.out _ _ (hS.trans o1 (fun _ _ h => h)) (fun hS => ?_)
  clear hK' K' o1 HEI HEJ HWI HWJ HRI HRJ HQx9x10
  refine take_at (i := 33) 75 (v := .bool true) rfl rfl (by kernel_rfl) (by kernel_rfl) (by kernel_rfl) (fun _ _ _ h => h) (Or.inl ⟨by rfl, fun w' hw' => by go_simp⟩) hS ?_
  simp only [Act.put, lsA, lsZ, lsS]
  refine take_at (i := 34) 76 (v := .bool true) rfl rfl (by kernel_rfl) (by kernel_rfl) (by kernel_rfl) (fun _ _ _ h => h) (Or.inl ⟨by rfl, fun w' hw' => by go_simp⟩) hS ?_
  simp only [Act.put, lsA, lsZ, lsS]
  refine take_at (i := 35) 77 (v := .pointer (some ⟨p6, 0, none⟩)) rfl rfl (by kernel_rfl) (by kernel_rfl) (by kernel_rfl) (fun _ _ _ h => h) (Or.inl ⟨by rfl, fun w' hw' => by go_simp⟩) hS ?_
  simp only [Act.put, lsA, lsZ, lsS]
  refine take_at (i := 37) 79 (v := .pointer (some ⟨p, 0, none⟩)) rfl rfl (by kernel_rfl) (by kernel_rfl) (by kernel_rfl) (fun _ _ _ h => h) (Or.inl ⟨by rfl, fun w' hw' => by go_simp⟩) hS ?_
  simp only [Act.put, lsA, lsZ, lsS]
  refine wpAnyH_ready (rs := [36]) (by kernel_rfl) (by simp) ?_
  refine AllReadyH.cons rfl (fun K' hK' => ?_) AllReadyH.nil
  go_simp
  refine (vrecs_any (HV6.out.free hS)).mono ?_
  rintro e y1 ⟨rfl, hw⟩
  refine hK'.out _ _ (by rw [hw]; exact hS) (fun hS => ?_)
  clear hK' K' hw
  refine wpAnyH_ready (rs := [38]) (by kernel_rfl) (by simp) ?_
  refine AllReadyH.cons rfl (fun K' hK' => ?_) AllReadyH.nil
  go_simp
  refine (vrecs_any (HV4.out.free hS)).mono ?_
  rintro e y2 ⟨rfl, hw⟩
  refine hK'.out _ _ (by rw [hw]; exact hS) (fun hS => ?_)
  clear hK' K' hw
  refine take_at (i := 39) 81 (v := .bool true) rfl rfl (by kernel_rfl) (by kernel_rfl) (by kernel_rfl) (fun _ _ _ h => h) (Or.inl ⟨by rfl, fun w' hw' => by go_simp⟩) hS ?_
  simp only [Act.put, lsA, lsZ, lsS]
  refine take_at (i := 40) 82 (v := .bool true) rfl rfl (by kernel_rfl) (by kernel_rfl) (by kernel_rfl) (fun _ _ _ h => h) (Or.inl ⟨by rfl, fun w' hw' => by go_simp⟩) hS ?_
  simp only [Act.put, lsA, lsZ, lsS]
  refine take_at (i := 41) 83 (v := .bool true) rfl rfl (by kernel_rfl) (by kernel_rfl) (by kernel_rfl) (fun _ _ _ h => h) (Or.inl ⟨by rfl, fun w' hw' => by go_simp⟩) hS ?_
  simp only [Act.put, lsA, lsZ, lsS]
  refine take_at (i := 42) 84 (v := .pointer (some ⟨b, 0, none⟩)) rfl rfl (by kernel_rfl) (by kernel_rfl) (by kernel_rfl) (fun _ _ _ h => h) (Or.inl ⟨by rfl, fun w' hw' => by go_simp⟩) hS ?_
  simp only [Act.put, lsA, lsZ, lsS]
  refine take_at (i := 45) 87 (v := .slice tb bs.length cb) rfl rfl (by kernel_rfl) (by kernel_rfl) (by kernel_rfl) (fun _ _ _ h => h) (Or.inl ⟨by rfl, fun w' hw' => by go_simp⟩) hS ?_
  simp only [Act.put, lsA, lsZ, lsS]
  refine take_at (i := 46) 88 (v := .string (strOf bs)) rfl rfl (by kernel_rfl) (by kernel_rfl) (by kernel_rfl) (fun _ _ _ h => h) (Or.inl ⟨by rfl, fun w' hw' => by have hcs := conv_src (HBS.out.off hw' (fun _ _ _ h => h)); go_simp⟩) hS ?_
  simp only [Act.put, lsA, lsZ, lsS]
  refine wpAnyH_ready (rs := [43]) (by kernel_rfl) (by simp) ?_
  refine AllReadyH.cons rfl (fun K' hK' => ?_) AllReadyH.nil
  go_simp
  refine (dbytes_any (HFD.out.free hS).dsk).mono ?_
  rw [← HBQ.out]
  rintro e y3 ⟨t6, c6, rfl, own6, -, o6⟩
  refine hK'.out _ _ (hS.trans o6 (fun _ _ h => h)) (fun hS => ?_)
  clear hK' K'
  have HS6 : Hid _ := own6.src
  clear own6 o6
  refine wpAnyH_ready (rs := [44]) (by kernel_rfl) (by simp) ?_
  refine AllReadyH.cons rfl (fun K' hK' => ?_) AllReadyH.nil
  have hcs := conv_src HS6.out
  go_simp
  refine hK'.out _ _ hS (fun hS => ?_)
  clear hK' K' hcs
  refine take_at (i := 47) 89 (v := .bool true) rfl rfl (by kernel_rfl) (by kernel_rfl) (by kernel_rfl) (fun _ _ _ h => h) (Or.inl ⟨by rfl, fun w' hw' => by go_simp⟩) hS ?_
  simp only [Act.put, lsA, lsZ, lsS]
  refine take_at (i := 48) 90 (v := .bool true) rfl rfl (by kernel_rfl) (by kernel_rfl) (by kernel_rfl) (fun _ _ _ h => h) (Or.inl ⟨by rfl, fun w' hw' => by go_simp⟩) hS ?_
  simp only [Act.put, lsA, lsZ, lsS]
  refine take_at (i := 49) 91 (v := .bool true) rfl rfl (by kernel_rfl) (by kernel_rfl) (by kernel_rfl) (fun _ _ _ h => h) (Or.inl ⟨by rfl, fun w' hw' => by go_simp⟩) hS ?_
  simp only [Act.put, lsA, lsZ, lsS]
  refine wpAnyH_ready (rs := [50]) (by kernel_rfl) (by simp) ?_
  refine AllReadyH.cons rfl (fun K' hK' => ?_) AllReadyH.nil
  go_simp
  refine (awake_any _).mono ?_
  rintro e y4 ⟨rfl, o7⟩
  refine hK'.out _ _ (hS.trans o7 (fun _ _ h => h)) (fun hS => ?_)
  clear hK' K' o7
  refine take_at (i := 51) 93 (v := .bool true) rfl rfl (by kernel_rfl) (by kernel_rfl) (by kernel_rfl) (fun _ _ _ h => h) (Or.inl ⟨by rfl, fun w' hw' => by go_simp⟩) hS ?_
  simp only [Act.put, lsA, lsZ, lsS]
  refine take_at (i := 52) 2 (v := .bool true) rfl rfl (by kernel_rfl) (by kernel_rfl) (by kernel_rfl) (fun _ _ _ h => h) (Or.inl ⟨by rfl, fun w' hw' => by go_simp⟩) hS ?_
  simp only [Act.put, lsA, lsZ, lsS]
  refine wpAnyH_done (by kernel_rfl) ?_ _
  have HOZ : Hid _ := HOW.out.trans hS (fun _ _ h => h)
  clear hS
  go_wp2_with fail
  go_ret
  exact ⟨rfl, HOZ.out⟩
end Go.Proofs.YthjbnpaghiojlabGreat
