/- The law's do: a call to both; same. -/
import Derived.Test.YtakijikehpblfaaRel16
import Derived.Test.YtakijikehpblfaaVa16
import Derived.Test.YtakijikehpblfaaArg16
namespace Go.Proofs.Ytakijikehpblfaa
set_option maxRecDepth 100000
open Go.RowKit

theorem Mls.drew {w : World} {t : Option Addr} {c : Nat} {l : List Mb} (h : Mls w t c l) : Mls w.drew t c l := h.offD ((Off.refl (fun _ => False) w).drew) (fun _ _ _ h => h)
/-- A row that came in lies in none of these blocks. -/
theorem Mls.offS {w w' : World} {t : Option Addr} {c : Nat} {l : List Mb} (h : Mls w t c l) {p : Nat} (o : Off (fun k => k = p) w w') (hp : 0 < l.length → blk t ≠ some p) : Mls w' t c l := by
  by_cases hl : 0 < l.length
  · exact h.offD o (fun k _ e q => hp hl (by rw [e, q]))
  · exact ⟨h.len, fun i x hi => by
      obtain ⟨h1, -⟩ := List.getElem?_eq_some_iff.1 hi
      omega⟩
def doD (d : VD) (x : C) : VD := if x.k = 0 then (if 20 < x.l.length then d else joinK d x.l x.l.length) else if x.k = 1 then susD d x.node else if x.k = 2 then tickD d else if x.k = 3 then askD d x.node else hearD d x.node
def doE (d : VD) (x : C) : VD := if x.k = 0 then (if 20 < x.l.length then d else joinK d x.l x.l.length) else if x.k = 1 then susD d x.node else if x.k = 2 then rtickK d d.n else if x.k = 3 then askD d x.node else rhearD d x.node
theorem Rel.do_ {d e : VD} {z : Int} (h : Rel d e z) (x : C) : Rel (doD d x) (doE e x) (z + 1) := by
  unfold doD doE
  split
  · split
    · exact h.more (by omega)
    · exact (h.join _ _).2.more (by omega)
  · split
    · exact (h.sus _).2.more (by omega)
    · split
      · exact h.tick.2.more (by omega)
      · split
        · exact h.ask _
        · exact (h.hear _).more (by omega)
theorem askD_n' (d : VD) (k : Int) : (askD d k).n = d.n ∧ (askD d k).self = d.self := by unfold askD; split <;> exact ⟨rfl, rfl⟩
theorem hearD_n' (d : VD) (k : Int) : (hearD d k).n = d.n ∧ (hearD d k).self = d.self := by unfold hearD; split <;> exact ⟨rfl, rfl⟩
theorem susD_n (d : VD) (k : Int) : (susD d k).n = d.n ∧ (susD d k).self = d.self := by
  unfold susD
  split
  · exact ⟨(holdD_n _ _ _).1, (holdD_n _ _ _).2.1⟩
  · exact ⟨rfl, rfl⟩
theorem doD_n (d : VD) (x : C) : (doD d x).n = d.n ∧ (doD d x).self = d.self := by
  unfold doD
  split
  · split
    · exact ⟨rfl, rfl⟩
    · exact ⟨(joinK_n _ _ _).1, (joinK_n _ _ _).2.1⟩
  · split
    · exact susD_n _ _
    · split
      · exact ⟨(tickK_n _ _).1, (tickK_n _ _).2.1⟩
      · split
        · exact askD_n' _ _
        · exact hearD_n' _ _
set_option maxHeartbeats 4000000 in
theorem do_any {p q a b c : Nat} {d e : VD} {z : Int} (hrel : Rel d e z) (hz : z ≤ 999) (k node : Int) (la : Option Addr) (lc : Nat) (l : List Mb) {w : World} (hl : Mls w la lc l) (hsep : 0 < l.length → blk la ≠ some p ∧ blk la ≠ some a ∧ blk la ≠ some b ∧ blk la ≠ some c) (hv : Vw p d w) (hr : RVw q a b c e w) :
    Calls Try.prog 12 #[.pointer (some ⟨p, 0, none⟩), .pointer (some ⟨q, 0, none⟩), .agg #[.int .i64 k, .int .i64 node, .slice la l.length lc]] w fun E w' => E = .returned (.bool true) ∧ Vw p (doD d ⟨k, node, la, lc, l⟩) w' ∧ RVw q a b c (doE e ⟨k, node, la, lc, l⟩) w' ∧ Off (fun k => k = p ∨ k = a ∨ k = b ∨ k = c) w w' := by
  have HRL : Hid _ := hrel
  have HSEP : Hid (0 < l.length → blk la ≠ some p ∧ blk la ≠ some a ∧ blk la ≠ some b ∧ blk la ≠ some c) := hsep
  have hll := hl.len
  have hpq := hv.cel.ne hr.cel (by decide)
  have hpa : p ≠ a ∧ p ≠ b ∧ p ≠ c := by
    obtain ⟨c1, k1, -⟩ := hr.m.is
    obtain ⟨c2, k2, -⟩ := hr.age.is
    obtain ⟨c3, k3, -⟩ := hr.op.is
    exact ⟨hv.cel.ne k1 (by decide), hv.cel.ne k2 (by decide), hv.cel.ne k3 (by decide)⟩
  have HPQ : Hid (¬ q = p ∧ ¬ a = p ∧ ¬ b = p ∧ ¬ c = p) := ⟨hpq.symm, hpa.1.symm, hpa.2.1.symm, hpa.2.2.symm⟩
  have HPA : Hid (¬ (p = a ∨ p = b ∨ p = c)) := by
    show ¬ _
    rintro (e | e | e)
    · exact hpa.1 e
    · exact hpa.2.1 e
    · exact hpa.2.2 e
  have hlt : p < w.heap.size ∧ a < w.heap.size ∧ b < w.heap.size ∧ c < w.heap.size := ⟨hv.lt, hr.m.lt, hr.age.lt, hr.op.lt⟩
  have HNB0 : Hid (¬ (w.heap.size = p ∨ w.heap.size = a ∨ w.heap.size = b ∨ w.heap.size = c)) := by show ¬ _; omega
  have HBP0 : Hid (¬ w.heap.size = p) := by show ¬ _; omega
  have HBA0 : Hid (¬ (w.heap.size = a ∨ w.heap.size = b ∨ w.heap.size = c)) := by show ¬ _; omega
  have HV0 : Hid _ := hv
  have HR0 : Hid _ := hr
  have HM0 : Hid _ := hl
  clear hv hr hl hrel hsep hpq hpa hlt
  go_enter Try.func12, Try.ntmps12
  go_upto_region 1 with fail
  generalize hW : w.alloc (.cells #[.int .i64 k, .int .i64 node, .slice la l.length lc] 31) = W
  have HB : Hid (Cel w.heap.size 31 #[.int .i64 k, .int .i64 node, .slice la l.length lc] W) := by rw [← hW]; exact Cel.new w _ _
  have HV : Hid (Vw p d W) := by rw [← hW]; exact HV0.out.alloc _
  have HR : Hid (RVw q a b c e W) := by rw [← hW]; exact HR0.out.off ((Off.refl (fun _ => False) w).alloc _) ⟨fun h => h, fun h => h, fun h => h, fun h => h⟩
  have HM : Hid (Mls W la lc l) := by rw [← hW]; exact HM0.out.offD ((Off.refl (fun _ => False) w).alloc _) (fun _ _ _ h => h)
  have HO : Hid (Off (fun k => k = p ∨ k = a ∨ k = b ∨ k = c) w W) := by rw [← hW]; exact (Off.refl _ w).alloc _
  clear hW HV0 HR0 HM0
  have HNB : Hid _ := HNB0.out
  have HBP : Hid _ := HBP0.out
  have HBA : Hid _ := HBA0.out
  clear HNB0 HBP0 HBA0
  generalize w.heap.size = B at *
  have b0 : W.cell? ⟨B, 0, none⟩ = some (.int .i64 k) := HB.out.cell 0
  have b1 : W.cell? ⟨B, 1, none⟩ = some (.int .i64 node) := HB.out.cell 1
  have b2 : W.cell? ⟨B, 2, none⟩ = some (.slice la l.length lc) := HB.out.cell 2
  by_cases h0 : k = 0
  · have HK : Hid (k = 0) := h0
    rw [h0] at b0
    by_cases h20 : 20 < l.length
    · have HDD : Hid (doD d ⟨k, node, la, lc, l⟩ = d) := by show _ = _; unfold doD; rw [if_pos HK.out, if_pos h20]
      have HDE : Hid (doE e ⟨k, node, la, lc, l⟩ = e) := by show _ = _; unfold doE; rw [if_pos HK.out, if_pos h20]
      clear h0
      go_upto_region 5 with fail
      clear b0 b1 b2
      refine wp_region_held_drew (S := Off (fun k => k = p ∨ k = a ∨ k = b ∨ k = c) W) (by kernel_rfl) ((Off.refl _ W).drew) (fun hS => ?_)
      refine take_at (i := 0) 19 (v := .pointer (some ⟨B, 2, none⟩)) rfl rfl (by kernel_rfl) (by kernel_rfl) (by kernel_rfl) (fun _ _ _ h => h) (Or.inl ⟨by rfl, fun w' hw' => by go_simp⟩) hS ?_
      simp only [Act.put, List.setIfInBounds_toArray, List.set_cons_zero, List.set_cons_succ]
      refine take_at (i := 1) 20 (v := .slice la l.length lc) rfl rfl (by kernel_rfl) (by kernel_rfl) (by kernel_rfl) (fun _ _ _ h => h) (Or.inl ⟨by rfl, fun w' hw' => by have z0 := (HB.out.off hw' HNB.out).cell 2; simp at z0; go_simp⟩) hS ?_
      simp only [Act.put, List.setIfInBounds_toArray, List.set_cons_zero, List.set_cons_succ]
      refine take_at (i := 2) 21 (v := .int .i64 (l.length : Int)) rfl rfl (by kernel_rfl) (by kernel_rfl) (by kernel_rfl) (fun _ _ _ h => h) (Or.inl ⟨by rfl, fun w' hw' => by go_simp⟩) hS ?_
      simp only [Act.put, List.setIfInBounds_toArray, List.set_cons_zero, List.set_cons_succ]
      refine take_at (i := 3) 22 (v := .bool true) rfl rfl (by kernel_rfl) (by kernel_rfl) (by kernel_rfl) (fun _ _ _ h => h) (Or.inl ⟨by rfl, fun w' hw' => by go_simp; omega⟩) hS ?_
      simp only [Act.put, List.setIfInBounds_toArray, List.set_cons_zero, List.set_cons_succ]
      refine take_at (i := 4) 23 (v := .bool true) rfl rfl (by kernel_rfl) (by kernel_rfl) (by kernel_rfl) (fun _ _ _ h => h) (Or.inl ⟨by rfl, fun w' hw' => by go_simp⟩) hS ?_
      simp only [Act.put, List.setIfInBounds_toArray, List.set_cons_zero, List.set_cons_succ]
      refine take_at (i := 5) 24 (v := undef) rfl rfl (by kernel_rfl) (by kernel_rfl) (by kernel_rfl) (fun _ _ _ h => h) (Or.inr ⟨by rfl, rfl⟩) hS ?_
      simp only [Act.put, List.setIfInBounds_toArray, List.set_cons_zero, List.set_cons_succ]
      refine take_at (i := 6) 25 (v := undef) rfl rfl (by kernel_rfl) (by kernel_rfl) (by kernel_rfl) (fun _ _ _ h => h) (Or.inr ⟨by rfl, rfl⟩) hS ?_
      simp only [Act.put, List.setIfInBounds_toArray, List.set_cons_zero, List.set_cons_succ]
      refine take_at (i := 7) 26 (v := undef) rfl rfl (by kernel_rfl) (by kernel_rfl) (by kernel_rfl) (fun _ _ _ h => h) (Or.inr ⟨by rfl, rfl⟩) hS ?_
      simp only [Act.put, List.setIfInBounds_toArray, List.set_cons_zero, List.set_cons_succ]
      refine take_at (i := 8) 27 (v := undef) rfl rfl (by kernel_rfl) (by kernel_rfl) (by kernel_rfl) (fun _ _ _ h => h) (Or.inr ⟨by rfl, rfl⟩) hS ?_
      simp only [Act.put, List.setIfInBounds_toArray, List.set_cons_zero, List.set_cons_succ]
      refine take_at (i := 9) 28 (v := undef) rfl rfl (by kernel_rfl) (by kernel_rfl) (by kernel_rfl) (fun _ _ _ h => h) (Or.inr ⟨by rfl, rfl⟩) hS ?_
      simp only [Act.put, List.setIfInBounds_toArray, List.set_cons_zero, List.set_cons_succ]
      refine take_at (i := 10) 29 (v := undef) rfl rfl (by kernel_rfl) (by kernel_rfl) (by kernel_rfl) (fun _ _ _ h => h) (Or.inr ⟨by rfl, rfl⟩) hS ?_
      simp only [Act.put, List.setIfInBounds_toArray, List.set_cons_zero, List.set_cons_succ]
      refine take_at (i := 11) 30 (v := undef) rfl rfl (by kernel_rfl) (by kernel_rfl) (by kernel_rfl) (fun _ _ _ h => h) (Or.inr ⟨by rfl, rfl⟩) hS ?_
      simp only [Act.put, List.setIfInBounds_toArray, List.set_cons_zero, List.set_cons_succ]
      refine take_at (i := 12) 31 (v := undef) rfl rfl (by kernel_rfl) (by kernel_rfl) (by kernel_rfl) (fun _ _ _ h => h) (Or.inr ⟨by rfl, rfl⟩) hS ?_
      simp only [Act.put, List.setIfInBounds_toArray, List.set_cons_zero, List.set_cons_succ]
      refine take_at (i := 13) 32 (v := undef) rfl rfl (by kernel_rfl) (by kernel_rfl) (by kernel_rfl) (fun _ _ _ h => h) (Or.inr ⟨by rfl, rfl⟩) hS ?_
      simp only [Act.put, List.setIfInBounds_toArray, List.set_cons_zero, List.set_cons_succ]
      refine take_at (i := 14) 33 (v := .bool true) rfl rfl (by kernel_rfl) (by kernel_rfl) (by kernel_rfl) (fun _ _ _ h => h) (Or.inl ⟨by rfl, fun w' hw' => by go_simp⟩) hS ?_
      simp only [Act.put, List.setIfInBounds_toArray, List.set_cons_zero, List.set_cons_succ]
      refine take_at (i := 15) 6 (v := .bool true) rfl rfl (by kernel_rfl) (by kernel_rfl) (by kernel_rfl) (fun _ _ _ h => h) (Or.inl ⟨by rfl, fun w' hw' => by go_simp⟩) hS ?_
      simp only [Act.put, List.setIfInBounds_toArray, List.set_cons_zero, List.set_cons_succ]
      refine wpAnyH_done (by kernel_rfl) ?_ _
      go_wp2_with fail
      go_ret
      rw [HDD.out, HDE.out]
      exact ⟨rfl, HV.out.drew, HR.out.drew, HO.out.drew⟩
    · have HDD : Hid (doD d ⟨k, node, la, lc, l⟩ = joinK d l l.length) := by show _ = _; unfold doD; rw [if_pos HK.out, if_neg h20]
      have HDE : Hid (doE e ⟨k, node, la, lc, l⟩ = joinK e l l.length) := by show _ = _; unfold doE; rw [if_pos HK.out, if_neg h20]
      have HJB : Hid _ := (HRL.out.join l l.length).1
      have HJ1 : Hid (∀ W, Vw p d W → Mls W la lc l → Calls Try.prog 19 #[.pointer (some ⟨p, 0, none⟩), .slice la l.length lc] W fun e w' => e = .returned (.bool (joinB d l l.length)) ∧ Vw p (joinK d l l.length) w' ∧ Off (fun c => c = p) W w') := fun W h hm => join_row la lc l hm (fun hl => (HSEP.out hl).1) h
      have HJ2 : Hid (∀ W, RVw q a b c e W → Mls W la lc l → Calls Try.prog 26 #[.pointer (some ⟨q, 0, none⟩), .slice la l.length lc] W fun E w' => E = .returned (.bool (joinB d l l.length)) ∧ RVw q a b c (joinK e l l.length) w' ∧ Off (fun k => k = a ∨ k = b ∨ k = c) W w') := fun W h hm => by rw [← HJB.out]; exact rjoin_row la lc l hm (fun hl => (HSEP.out hl).2) h
      clear h0
      generalize joinB d l l.length = jb at *
      go_upto_region 5 with fail
      clear b0 b1 b2
      refine wp_region_held_drew (S := Off (fun k => k = p ∨ k = a ∨ k = b ∨ k = c) W) (by kernel_rfl) ((Off.refl _ W).drew) (fun hS => ?_)
      refine take_at (i := 0) 19 (v := .pointer (some ⟨B, 2, none⟩)) rfl rfl (by kernel_rfl) (by kernel_rfl) (by kernel_rfl) (fun _ _ _ h => h) (Or.inl ⟨by rfl, fun w' hw' => by go_simp⟩) hS ?_
      simp only [Act.put, List.setIfInBounds_toArray, List.set_cons_zero, List.set_cons_succ]
      refine take_at (i := 1) 20 (v := .slice la l.length lc) rfl rfl (by kernel_rfl) (by kernel_rfl) (by kernel_rfl) (fun _ _ _ h => h) (Or.inl ⟨by rfl, fun w' hw' => by have z0 := (HB.out.off hw' HNB.out).cell 2; simp at z0; go_simp⟩) hS ?_
      simp only [Act.put, List.setIfInBounds_toArray, List.set_cons_zero, List.set_cons_succ]
      refine take_at (i := 2) 21 (v := .int .i64 (l.length : Int)) rfl rfl (by kernel_rfl) (by kernel_rfl) (by kernel_rfl) (fun _ _ _ h => h) (Or.inl ⟨by rfl, fun w' hw' => by go_simp⟩) hS ?_
      simp only [Act.put, List.setIfInBounds_toArray, List.set_cons_zero, List.set_cons_succ]
      refine take_at (i := 3) 22 (v := .bool false) rfl rfl (by kernel_rfl) (by kernel_rfl) (by kernel_rfl) (fun _ _ _ h => h) (Or.inl ⟨by rfl, fun w' hw' => by go_simp; omega⟩) hS ?_
      simp only [Act.put, List.setIfInBounds_toArray, List.set_cons_zero, List.set_cons_succ]
      refine take_at (i := 4) 23 (v := .bool false) rfl rfl (by kernel_rfl) (by kernel_rfl) (by kernel_rfl) (fun _ _ _ h => h) (Or.inl ⟨by rfl, fun w' hw' => by go_simp⟩) hS ?_
      simp only [Act.put, List.setIfInBounds_toArray, List.set_cons_zero, List.set_cons_succ]
      refine take_at (i := 5) 24 (v := .pointer (some ⟨p, 0, none⟩)) rfl rfl (by kernel_rfl) (by kernel_rfl) (by kernel_rfl) (fun _ _ _ h => h) (Or.inl ⟨by rfl, fun w' hw' => by go_simp⟩) hS ?_
      simp only [Act.put, List.setIfInBounds_toArray, List.set_cons_zero, List.set_cons_succ]
      refine take_at (i := 6) 25 (v := .pointer (some ⟨B, 2, none⟩)) rfl rfl (by kernel_rfl) (by kernel_rfl) (by kernel_rfl) (fun _ _ _ h => h) (Or.inl ⟨by rfl, fun w' hw' => by go_simp⟩) hS ?_
      simp only [Act.put, List.setIfInBounds_toArray, List.set_cons_zero, List.set_cons_succ]
      refine take_at (i := 7) 26 (v := .slice la l.length lc) rfl rfl (by kernel_rfl) (by kernel_rfl) (by kernel_rfl) (fun _ _ _ h => h) (Or.inl ⟨by rfl, fun w' hw' => by have z0 := (HB.out.off hw' HNB.out).cell 2; simp at z0; go_simp⟩) hS ?_
      simp only [Act.put, List.setIfInBounds_toArray, List.set_cons_zero, List.set_cons_succ]
      refine take_at (i := 9) 28 (v := .pointer (some ⟨q, 0, none⟩)) rfl rfl (by kernel_rfl) (by kernel_rfl) (by kernel_rfl) (fun _ _ _ h => h) (Or.inl ⟨by rfl, fun w' hw' => by go_simp⟩) hS ?_
      simp only [Act.put, List.setIfInBounds_toArray, List.set_cons_zero, List.set_cons_succ]
      refine take_at (i := 10) 29 (v := .pointer (some ⟨B, 2, none⟩)) rfl rfl (by kernel_rfl) (by kernel_rfl) (by kernel_rfl) (fun _ _ _ h => h) (Or.inl ⟨by rfl, fun w' hw' => by go_simp⟩) hS ?_
      simp only [Act.put, List.setIfInBounds_toArray, List.set_cons_zero, List.set_cons_succ]
      refine take_at (i := 11) 30 (v := .slice la l.length lc) rfl rfl (by kernel_rfl) (by kernel_rfl) (by kernel_rfl) (fun _ _ _ h => h) (Or.inl ⟨by rfl, fun w' hw' => by have z0 := (HB.out.off hw' HNB.out).cell 2; simp at z0; go_simp⟩) hS ?_
      simp only [Act.put, List.setIfInBounds_toArray, List.set_cons_zero, List.set_cons_succ]
      refine wpAnyH_ready (rs := [8]) (by kernel_rfl) (by simp) ?_
      refine AllReadyH.cons rfl (fun K' hK' => ?_) AllReadyH.nil
      go_simp
      refine (HJ1.out _ HV.out.drew HM.out.drew).mono ?_
      rintro e V1 ⟨rfl, v1, o1⟩
      have HV1 : Hid _ := v1
      have HR1 : Hid _ := HR.out.drew.off o1 HPQ.out
      have HM1 : Hid _ := HM.out.drew.offS o1 (fun e => (HSEP.out e).1)
      refine hK'.out _ _ (hS.trans o1 (fun _ _ h => .inl h)) (fun hS => ?_)
      clear hK' K' v1 o1
      refine wpAnyH_ready (rs := [12]) (by kernel_rfl) (by simp) ?_
      refine AllReadyH.cons rfl (fun K' hK' => ?_) AllReadyH.nil
      go_simp
      refine (HJ2.out _ HR1.out HM1.out).mono ?_
      rintro e V2 ⟨rfl, v2, o2⟩
      have HV2 : Hid _ := HV1.out.off o2 HPA.out
      have HR2 : Hid _ := v2
      have hS2 := hS.trans o2 (fun _ _ h => .inr h)
      refine hK'.out _ _ hS2 (fun hS => ?_)
      clear hK' K' v2 o2
      refine take_at (i := 13) 32 (v := .bool true) rfl rfl (by kernel_rfl) (by kernel_rfl) (by kernel_rfl) (fun _ _ _ h => h) (Or.inl ⟨by rfl, fun w' hw' => by go_simp⟩) hS ?_
      simp only [Act.put, List.setIfInBounds_toArray, List.set_cons_zero, List.set_cons_succ]
      refine take_at (i := 14) 33 (v := .bool true) rfl rfl (by kernel_rfl) (by kernel_rfl) (by kernel_rfl) (fun _ _ _ h => h) (Or.inl ⟨by rfl, fun w' hw' => by go_simp⟩) hS ?_
      simp only [Act.put, List.setIfInBounds_toArray, List.set_cons_zero, List.set_cons_succ]
      refine take_at (i := 15) 6 (v := .bool true) rfl rfl (by kernel_rfl) (by kernel_rfl) (by kernel_rfl) (fun _ _ _ h => h) (Or.inl ⟨by rfl, fun w' hw' => by go_simp⟩) hS ?_
      simp only [Act.put, List.setIfInBounds_toArray, List.set_cons_zero, List.set_cons_succ]
      have HF : Hid _ := HO.out.trans hS2 (fun _ _ h => h)
      clear hS hS2
      refine wpAnyH_done (by kernel_rfl) ?_ _
      go_wp2_with fail
      go_ret
      rw [HDD.out, HDE.out]
      exact ⟨rfl, HV2.out, HR2.out, HF.out⟩
  · have HK : Hid (¬ k = 0) := h0
    by_cases h1 : k = 1
    · have HDD : Hid (doD d ⟨k, node, la, lc, l⟩ = susD d node) := by show _ = _; unfold doD; rw [if_neg HK.out, if_pos h1]
      have HDE : Hid (doE e ⟨k, node, la, lc, l⟩ = susD e node) := by show _ = _; unfold doE; rw [if_neg HK.out, if_pos h1]
      rw [h1] at b0
      have HSB : Hid _ := (HRL.out.sus node).1
      have HJ1 : Hid (∀ W, Vw p d W → Calls Try.prog 20 #[.pointer (some ⟨p, 0, none⟩), .int .i64 node] W fun e w' => e = .returned (.bool (susB d node)) ∧ Vw p (susD d node) w' ∧ Off (fun c => c = p) W w') := fun W h => suspect_any node h
      have HJ2 : Hid (∀ W, RVw q a b c e W → Calls Try.prog 27 #[.pointer (some ⟨q, 0, none⟩), .int .i64 node] W fun E w' => E = .returned (.bool (susB d node)) ∧ RVw q a b c (susD e node) w' ∧ Off (fun k => k = a ∨ k = b ∨ k = c) W w') := fun W h => by rw [← HSB.out]; exact rsuspect_any node h
      clear h0 h1
      generalize susB d node = sb at *
      go_upto_region 7 with fail
      clear b0 b1 b2
      refine wp_region_held_drew (S := Off (fun k => k = p ∨ k = a ∨ k = b ∨ k = c) W) (by kernel_rfl) ((Off.refl _ W).drew) (fun hS => ?_)
      refine take_at (i := 0) 36 (v := .pointer (some ⟨p, 0, none⟩)) rfl rfl (by kernel_rfl) (by kernel_rfl) (by kernel_rfl) (fun _ _ _ h => h) (Or.inl ⟨by rfl, fun w' hw' => by go_simp⟩) hS ?_
      simp only [Act.put, List.setIfInBounds_toArray, List.set_cons_zero, List.set_cons_succ]
      refine take_at (i := 1) 37 (v := .pointer (some ⟨B, 1, none⟩)) rfl rfl (by kernel_rfl) (by kernel_rfl) (by kernel_rfl) (fun _ _ _ h => h) (Or.inl ⟨by rfl, fun w' hw' => by go_simp⟩) hS ?_
      simp only [Act.put, List.setIfInBounds_toArray, List.set_cons_zero, List.set_cons_succ]
      refine take_at (i := 2) 38 (v := .int .i64 node) rfl rfl (by kernel_rfl) (by kernel_rfl) (by kernel_rfl) (fun _ _ _ h => h) (Or.inl ⟨by rfl, fun w' hw' => by have z0 := (HB.out.off hw' HNB.out).cell 1; simp at z0; go_simp⟩) hS ?_
      simp only [Act.put, List.setIfInBounds_toArray, List.set_cons_zero, List.set_cons_succ]
      refine take_at (i := 4) 40 (v := .pointer (some ⟨q, 0, none⟩)) rfl rfl (by kernel_rfl) (by kernel_rfl) (by kernel_rfl) (fun _ _ _ h => h) (Or.inl ⟨by rfl, fun w' hw' => by go_simp⟩) hS ?_
      simp only [Act.put, List.setIfInBounds_toArray, List.set_cons_zero, List.set_cons_succ]
      refine take_at (i := 5) 41 (v := .pointer (some ⟨B, 1, none⟩)) rfl rfl (by kernel_rfl) (by kernel_rfl) (by kernel_rfl) (fun _ _ _ h => h) (Or.inl ⟨by rfl, fun w' hw' => by go_simp⟩) hS ?_
      simp only [Act.put, List.setIfInBounds_toArray, List.set_cons_zero, List.set_cons_succ]
      refine take_at (i := 6) 42 (v := .int .i64 node) rfl rfl (by kernel_rfl) (by kernel_rfl) (by kernel_rfl) (fun _ _ _ h => h) (Or.inl ⟨by rfl, fun w' hw' => by have z0 := (HB.out.off hw' HNB.out).cell 1; simp at z0; go_simp⟩) hS ?_
      simp only [Act.put, List.setIfInBounds_toArray, List.set_cons_zero, List.set_cons_succ]
      refine wpAnyH_ready (rs := [3]) (by kernel_rfl) (by simp) ?_
      refine AllReadyH.cons rfl (fun K' hK' => ?_) AllReadyH.nil
      go_simp
      refine (HJ1.out _ HV.out.drew).mono ?_
      rintro e V1 ⟨rfl, v1, o1⟩
      have HV1 : Hid _ := v1
      have HR1 : Hid _ := HR.out.drew.off o1 HPQ.out
      refine hK'.out _ _ (hS.trans o1 (fun _ _ h => .inl h)) (fun hS => ?_)
      clear hK' K' v1 o1
      refine wpAnyH_ready (rs := [7]) (by kernel_rfl) (by simp) ?_
      refine AllReadyH.cons rfl (fun K' hK' => ?_) AllReadyH.nil
      go_simp
      refine (HJ2.out _ HR1.out).mono ?_
      rintro e V2 ⟨rfl, v2, o2⟩
      have HV2 : Hid _ := HV1.out.off o2 HPA.out
      have HR2 : Hid _ := v2
      have hS2 := hS.trans o2 (fun _ _ h => .inr h)
      refine hK'.out _ _ hS2 (fun hS => ?_)
      clear hK' K' v2 o2
      refine take_at (i := 8) 44 (v := .bool true) rfl rfl (by kernel_rfl) (by kernel_rfl) (by kernel_rfl) (fun _ _ _ h => h) (Or.inl ⟨by rfl, fun w' hw' => by go_simp⟩) hS ?_
      simp only [Act.put, List.setIfInBounds_toArray, List.set_cons_zero, List.set_cons_succ]
      refine take_at (i := 9) 6 (v := .bool true) rfl rfl (by kernel_rfl) (by kernel_rfl) (by kernel_rfl) (fun _ _ _ h => h) (Or.inl ⟨by rfl, fun w' hw' => by go_simp⟩) hS ?_
      simp only [Act.put, List.setIfInBounds_toArray, List.set_cons_zero, List.set_cons_succ]
      have HF : Hid _ := HO.out.trans hS2 (fun _ _ h => h)
      clear hS hS2
      refine wpAnyH_done (by kernel_rfl) ?_ _
      go_wp2_with fail
      go_ret
      rw [HDD.out, HDE.out]
      exact ⟨rfl, HV2.out, HR2.out, HF.out⟩
    · by_cases h2 : k = 2
      · have HDD : Hid (doD d ⟨k, node, la, lc, l⟩ = tickD d) := by show _ = _; unfold doD; rw [if_neg HK.out, if_neg h1, if_pos h2]
        have HDE : Hid (doE e ⟨k, node, la, lc, l⟩ = rtickK e e.n) := by show _ = _; unfold doE; rw [if_neg HK.out, if_neg h1, if_pos h2]
        rw [h2] at b0
        have HJ1 : Hid _ := tick_any HRL.out.inv.few HV.out
        have HTN : Hid _ := HRL.out.tick.1
        clear h0 h1 h2
        go_wp2_with fail
        refine Calls.mono HJ1.out ?_
        rintro e0 w1 ⟨rfl, v1, o1⟩
        have HV1 : Hid _ := v1
        have HR1 : Hid _ := HR.out.off o1 HPQ.out
        have HO1 : Hid (Off (fun k => k = p ∨ k = a ∨ k = b ∨ k = c) w w1) := HO.out.trans o1 (fun _ _ h => .inl h)
        have HJ2 : Hid _ := rtick_any HRL.out.ages HR1.out
        rw [HTN.out] at HJ2
        clear v1 o1 b0 b1 b2 HJ1
        generalize tickN d d.n = tn at *
        go_wp2_with fail
        refine Calls.mono HJ2.out ?_
        rintro e0 w2 ⟨rfl, v2, o2⟩
        have HV2 : Hid _ := HV1.out.off o2 HPA.out
        have HR2 : Hid _ := v2
        have HO2 : Hid (Off (fun k => k = p ∨ k = a ∨ k = b ∨ k = c) w w2) := HO1.out.trans o2 (fun _ _ h => .inr h)
        clear v2 o2
        go_wp2_with fail
        go_ret
        rw [HDD.out, HDE.out]
        exact ⟨rfl, HV2.out, HR2.out, HO2.out⟩
      · by_cases h3 : k = 3
        · have HDD : Hid (doD d ⟨k, node, la, lc, l⟩ = askD d node) := by show _ = _; unfold doD; rw [if_neg HK.out, if_neg h1, if_neg h2, if_pos h3]
          have HDE : Hid (doE e ⟨k, node, la, lc, l⟩ = askD e node) := by show _ = _; unfold doE; rw [if_neg HK.out, if_neg h1, if_neg h2, if_pos h3]
          rw [h3] at b0
          have HRL9 : Hid _ := HRL.out.ask node
          clear h0 h1 h2 h3
          have HA1 : Hid _ := asked_any node (HRL.out.ops_d (by omega)) HV.out
          have HA2 : Hid (∀ W, RVw q a b c e W → _) := fun W h => rasked_any node (HRL.out.ops_e (by omega)) (w := W) h
          go_wp2_with fail
          refine Calls.mono (HA1.out) ?_
          rintro e w1 ⟨rfl, v1, o1⟩
          have HV1 : Hid _ := v1
          have HR1 : Hid _ := HR.out.off o1 HPQ.out
          have HO1 : Hid (Off (fun k => k = p ∨ k = a ∨ k = b ∨ k = c) w w1) := HO.out.trans o1 (fun _ _ h => .inl h)
          have HB1 : Hid _ := HB.out.off o1 HBP.out
          clear v1 o1 HB HV HR HO
          have b1 : w1.cell? ⟨B, 1, none⟩ = some (.int .i64 node) := HB1.out.cell 1
          go_wp2_with fail
          refine Calls.mono (HA2.out _ HR1.out) ?_
          rintro e W9 ⟨rfl, v2, o2⟩
          have HV9 : Hid _ := HV1.out.off o2 HPA.out
          have HR9 : Hid _ := v2
          have HO9 : Hid (Off (fun k => k = p ∨ k = a ∨ k = b ∨ k = c) w W9) := HO1.out.trans o2 (fun _ _ h => .inr h)
          have HB : Hid _ := HB1.out.off o2 HBA.out
          clear v2 o2 HB1 HV1 HR1 HO1 b1
          have HM1 : Hid (∀ W, Vw p (askD d node) W → Calls Try.prog 22 #[.pointer (some ⟨p, 0, none⟩), .int .i64 node] W fun e w' => e = .returned (.int .i64 (if hasB (askD d node).n node = true then (askD d node).op node.toNat else 0)) ∧ w' = W) := fun W h => missed_any node h
          have HM2 : Hid (∀ W, RVw q a b c (askD e node) W → Calls Try.prog 31 #[.pointer (some ⟨q, 0, none⟩), .int .i64 node] W fun e w' => e = .returned (.int .i64 (if hasB (askD d node).n node = true then (askD d node).op node.toNat else 0)) ∧ w' = W) := fun W h => by rw [HRL9.out.missed node]; exact rmissed_any node h
          generalize (if hasB (askD d node).n node = true then (askD d node).op node.toNat else 0) = ms at *
          go_upto_region 13 with fail
          refine wp_region_held_drew (S := Off (fun k => k = p ∨ k = a ∨ k = b ∨ k = c) W9) (by kernel_rfl) ((Off.refl _ W9).drew) (fun hS => ?_)
          refine take_at (i := 0) 62 (v := .pointer (some ⟨p, 0, none⟩)) rfl rfl (by kernel_rfl) (by kernel_rfl) (by kernel_rfl) (fun _ _ _ h => h) (Or.inl ⟨by rfl, fun w' hw' => by go_simp⟩) hS ?_
          simp only [Act.put, List.setIfInBounds_toArray, List.set_cons_zero, List.set_cons_succ]
          refine take_at (i := 1) 63 (v := .pointer (some ⟨B, 1, none⟩)) rfl rfl (by kernel_rfl) (by kernel_rfl) (by kernel_rfl) (fun _ _ _ h => h) (Or.inl ⟨by rfl, fun w' hw' => by go_simp⟩) hS ?_
          simp only [Act.put, List.setIfInBounds_toArray, List.set_cons_zero, List.set_cons_succ]
          refine take_at (i := 2) 64 (v := .int .i64 node) rfl rfl (by kernel_rfl) (by kernel_rfl) (by kernel_rfl) (fun _ _ _ h => h) (Or.inl ⟨by rfl, fun w' hw' => by have z0 := (HB.out.off hw' HNB.out).cell 1; simp at z0; go_simp⟩) hS ?_
          simp only [Act.put, List.setIfInBounds_toArray, List.set_cons_zero, List.set_cons_succ]
          refine take_at (i := 4) 66 (v := .pointer (some ⟨q, 0, none⟩)) rfl rfl (by kernel_rfl) (by kernel_rfl) (by kernel_rfl) (fun _ _ _ h => h) (Or.inl ⟨by rfl, fun w' hw' => by go_simp⟩) hS ?_
          simp only [Act.put, List.setIfInBounds_toArray, List.set_cons_zero, List.set_cons_succ]
          refine take_at (i := 5) 67 (v := .pointer (some ⟨B, 1, none⟩)) rfl rfl (by kernel_rfl) (by kernel_rfl) (by kernel_rfl) (fun _ _ _ h => h) (Or.inl ⟨by rfl, fun w' hw' => by go_simp⟩) hS ?_
          simp only [Act.put, List.setIfInBounds_toArray, List.set_cons_zero, List.set_cons_succ]
          refine take_at (i := 6) 68 (v := .int .i64 node) rfl rfl (by kernel_rfl) (by kernel_rfl) (by kernel_rfl) (fun _ _ _ h => h) (Or.inl ⟨by rfl, fun w' hw' => by have z0 := (HB.out.off hw' HNB.out).cell 1; simp at z0; go_simp⟩) hS ?_
          simp only [Act.put, List.setIfInBounds_toArray, List.set_cons_zero, List.set_cons_succ]
          refine wpAnyH_ready (rs := [3]) (by kernel_rfl) (by simp) ?_
          refine AllReadyH.cons rfl (fun K' hK' => ?_) AllReadyH.nil
          go_simp
          refine (HM1.out _ HV9.out.drew).mono ?_
          rintro e V1 ⟨rfl, hw⟩
          rw [hw]
          clear hw V1
          refine hK'.out _ _ hS (fun hS => ?_)
          clear hK' K'
          refine wpAnyH_ready (rs := [7]) (by kernel_rfl) (by simp) ?_
          refine AllReadyH.cons rfl (fun K' hK' => ?_) AllReadyH.nil
          go_simp
          refine (HM2.out _ HR9.out.drew).mono ?_
          rintro e V1 ⟨rfl, hw⟩
          rw [hw]
          clear hw V1
          refine hK'.out _ _ hS (fun hS => ?_)
          clear hK' K'
          refine take_at (i := 8) 70 (v := .bool true) rfl rfl (by kernel_rfl) (by kernel_rfl) (by kernel_rfl) (fun _ _ _ h => h) (Or.inl ⟨by rfl, fun w' hw' => by go_simp⟩) hS ?_
          simp only [Act.put, List.setIfInBounds_toArray, List.set_cons_zero, List.set_cons_succ]
          refine take_at (i := 9) 6 (v := .bool true) rfl rfl (by kernel_rfl) (by kernel_rfl) (by kernel_rfl) (fun _ _ _ h => h) (Or.inl ⟨by rfl, fun w' hw' => by go_simp⟩) hS ?_
          simp only [Act.put, List.setIfInBounds_toArray, List.set_cons_zero, List.set_cons_succ]
          refine wpAnyH_done (by kernel_rfl) ?_ _
          go_wp2_with fail
          go_ret
          rw [HDD.out, HDE.out]
          exact ⟨rfl, HV9.out.drew, HR9.out.drew, HO9.out.drew⟩
        · have HDD : Hid (doD d ⟨k, node, la, lc, l⟩ = hearD d node) := by show _ = _; unfold doD; rw [if_neg HK.out, if_neg h1, if_neg h2, if_neg h3]
          have HDE : Hid (doE e ⟨k, node, la, lc, l⟩ = rhearD e node) := by show _ = _; unfold doE; rw [if_neg HK.out, if_neg h1, if_neg h2, if_neg h3]
          have HRL9 : Hid _ := HRL.out.hear node
          have HA1 : Hid _ := heard_any node HV.out
          have HA2 : Hid (∀ W, RVw q a b c e W → _) := fun W h => rheard_any node (w := W) h
          go_wp2_with fail
          refine Calls.mono (HA1.out) ?_
          rintro e w1 ⟨rfl, v1, o1⟩
          have HV1 : Hid _ := v1
          have HR1 : Hid _ := HR.out.off o1 HPQ.out
          have HO1 : Hid (Off (fun k => k = p ∨ k = a ∨ k = b ∨ k = c) w w1) := HO.out.trans o1 (fun _ _ h => .inl h)
          have HB1 : Hid _ := HB.out.off o1 HBP.out
          clear v1 o1 HB HV HR HO
          have b1 : w1.cell? ⟨B, 1, none⟩ = some (.int .i64 node) := HB1.out.cell 1
          go_wp2_with fail
          refine Calls.mono (HA2.out _ HR1.out) ?_
          rintro e W9 ⟨rfl, v2, o2⟩
          have HV9 : Hid _ := HV1.out.off o2 HPA.out
          have HR9 : Hid _ := v2
          have HO9 : Hid (Off (fun k => k = p ∨ k = a ∨ k = b ∨ k = c) w W9) := HO1.out.trans o2 (fun _ _ h => .inr h)
          have HB : Hid _ := HB1.out.off o2 HBA.out
          clear v2 o2 HB1 HV1 HR1 HO1 b1
          have HM1 : Hid (∀ W, Vw p (hearD d node) W → Calls Try.prog 22 #[.pointer (some ⟨p, 0, none⟩), .int .i64 node] W fun e w' => e = .returned (.int .i64 (if hasB (hearD d node).n node = true then (hearD d node).op node.toNat else 0)) ∧ w' = W) := fun W h => missed_any node h
          have HM2 : Hid (∀ W, RVw q a b c (rhearD e node) W → Calls Try.prog 31 #[.pointer (some ⟨q, 0, none⟩), .int .i64 node] W fun e w' => e = .returned (.int .i64 (if hasB (hearD d node).n node = true then (hearD d node).op node.toNat else 0)) ∧ w' = W) := fun W h => by rw [HRL9.out.missed node]; exact rmissed_any node h
          generalize (if hasB (hearD d node).n node = true then (hearD d node).op node.toNat else 0) = ms at *
          go_upto_region 13 with fail
          refine wp_region_held_drew (S := Off (fun k => k = p ∨ k = a ∨ k = b ∨ k = c) W9) (by kernel_rfl) ((Off.refl _ W9).drew) (fun hS => ?_)
          refine take_at (i := 0) 62 (v := .pointer (some ⟨p, 0, none⟩)) rfl rfl (by kernel_rfl) (by kernel_rfl) (by kernel_rfl) (fun _ _ _ h => h) (Or.inl ⟨by rfl, fun w' hw' => by go_simp⟩) hS ?_
          simp only [Act.put, List.setIfInBounds_toArray, List.set_cons_zero, List.set_cons_succ]
          refine take_at (i := 1) 63 (v := .pointer (some ⟨B, 1, none⟩)) rfl rfl (by kernel_rfl) (by kernel_rfl) (by kernel_rfl) (fun _ _ _ h => h) (Or.inl ⟨by rfl, fun w' hw' => by go_simp⟩) hS ?_
          simp only [Act.put, List.setIfInBounds_toArray, List.set_cons_zero, List.set_cons_succ]
          refine take_at (i := 2) 64 (v := .int .i64 node) rfl rfl (by kernel_rfl) (by kernel_rfl) (by kernel_rfl) (fun _ _ _ h => h) (Or.inl ⟨by rfl, fun w' hw' => by have z0 := (HB.out.off hw' HNB.out).cell 1; simp at z0; go_simp⟩) hS ?_
          simp only [Act.put, List.setIfInBounds_toArray, List.set_cons_zero, List.set_cons_succ]
          refine take_at (i := 4) 66 (v := .pointer (some ⟨q, 0, none⟩)) rfl rfl (by kernel_rfl) (by kernel_rfl) (by kernel_rfl) (fun _ _ _ h => h) (Or.inl ⟨by rfl, fun w' hw' => by go_simp⟩) hS ?_
          simp only [Act.put, List.setIfInBounds_toArray, List.set_cons_zero, List.set_cons_succ]
          refine take_at (i := 5) 67 (v := .pointer (some ⟨B, 1, none⟩)) rfl rfl (by kernel_rfl) (by kernel_rfl) (by kernel_rfl) (fun _ _ _ h => h) (Or.inl ⟨by rfl, fun w' hw' => by go_simp⟩) hS ?_
          simp only [Act.put, List.setIfInBounds_toArray, List.set_cons_zero, List.set_cons_succ]
          refine take_at (i := 6) 68 (v := .int .i64 node) rfl rfl (by kernel_rfl) (by kernel_rfl) (by kernel_rfl) (fun _ _ _ h => h) (Or.inl ⟨by rfl, fun w' hw' => by have z0 := (HB.out.off hw' HNB.out).cell 1; simp at z0; go_simp⟩) hS ?_
          simp only [Act.put, List.setIfInBounds_toArray, List.set_cons_zero, List.set_cons_succ]
          refine wpAnyH_ready (rs := [3]) (by kernel_rfl) (by simp) ?_
          refine AllReadyH.cons rfl (fun K' hK' => ?_) AllReadyH.nil
          go_simp
          refine (HM1.out _ HV9.out.drew).mono ?_
          rintro e V1 ⟨rfl, hw⟩
          rw [hw]
          clear hw V1
          refine hK'.out _ _ hS (fun hS => ?_)
          clear hK' K'
          refine wpAnyH_ready (rs := [7]) (by kernel_rfl) (by simp) ?_
          refine AllReadyH.cons rfl (fun K' hK' => ?_) AllReadyH.nil
          go_simp
          refine (HM2.out _ HR9.out.drew).mono ?_
          rintro e V1 ⟨rfl, hw⟩
          rw [hw]
          clear hw V1
          refine hK'.out _ _ hS (fun hS => ?_)
          clear hK' K'
          refine take_at (i := 8) 70 (v := .bool true) rfl rfl (by kernel_rfl) (by kernel_rfl) (by kernel_rfl) (fun _ _ _ h => h) (Or.inl ⟨by rfl, fun w' hw' => by go_simp⟩) hS ?_
          simp only [Act.put, List.setIfInBounds_toArray, List.set_cons_zero, List.set_cons_succ]
          refine take_at (i := 9) 6 (v := .bool true) rfl rfl (by kernel_rfl) (by kernel_rfl) (by kernel_rfl) (fun _ _ _ h => h) (Or.inl ⟨by rfl, fun w' hw' => by go_simp⟩) hS ?_
          simp only [Act.put, List.setIfInBounds_toArray, List.set_cons_zero, List.set_cons_succ]
          refine wpAnyH_done (by kernel_rfl) ?_ _
          go_wp2_with fail
          go_ret
          rw [HDD.out, HDE.out]
          exact ⟨rfl, HV9.out.drew, HR9.out.drew, HO9.out.drew⟩
theorem same_rows (g1 g2 n : Nat) (f : Nat → Mb) {w : World} (h1 : MRow g1 n f w) (h2 : MRow g2 n f w) (hn : n ≤ 8) :
    Calls Try.prog 15 #[.slice (some ⟨g1, 0, none⟩) n n, .slice (some ⟨g2, 0, none⟩) n n] w fun e w' => e = .returned (.bool true) ∧ Off (fun _ => False) w w' := by
  have H1 : Hid _ := h1
  have H2 : Hid _ := h2
  clear h1 h2
  go_enter Try.func15, Try.ntmps15
  go_wp2_with fail
  go_loopw [13] (fun s13 wr => ∃ i : Nat, s13 = .int .i64 (i : Int) ∧ i ≤ n ∧ MRow g1 n f wr ∧ MRow g2 n f wr ∧ Off (fun _ => False) w wr) (fun i _ => ((n : Int) - intOf i).toNat)
  case atStart => exact ⟨0, rfl, by omega, H1.out, H2.out, Off.refl _ w⟩
  case round =>
    obtain ⟨i, rfl, hi, m1, m2, o⟩ := hrel
    have HA : Hid _ := m1
    have HB : Hid _ := m2
    have HO : Hid _ := o
    clear m1 m2 o
    by_cases hlt : i < n
    · have x0 := HA.out.m0 hlt
      have x1 := HA.out.m1 hlt
      have y0 := HB.out.m0 hlt
      have y1 := HB.out.m1 hlt
      have he := neq_mem (f i).1 (f i).2 (f i).1 (f i).2
      rw [show eqM (f i).1 (f i).2 (f i).1 (f i).2 = true from eqM_iff.2 rfl] at he
      generalize (f i).1 = u at *
      generalize (f i).2 = v at *
      go_wp2_with fail
      go_quiet (fail)
      go_wp2_with fail
      go_roundw
      case rel => exact ⟨i + 1, by go_num, by omega, HA.out.off ((Off.refl (fun _ => False) _).drewN _) (fun h => h), HB.out.off ((Off.refl (fun _ => False) _).drewN _) (fun h => h), HO.out.drewN _⟩
      case measure => simp [intOf]; omega
    · obtain rfl : i = n := by omega
      go_wp2_with fail
      go_ret
      exact ⟨rfl, HO.out⟩
end Go.Proofs.Ytakijikehpblfaa
